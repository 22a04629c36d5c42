package rewrite_test

import (
	"errors"
	"math/rand"
	"slices"
	"testing"

	"annals/api"
	"annals/disk"
	"annals/rewrite"
	"annals/store"
)

// Promise 12.2: drawn lists of any records, held against the second reading.
func TestSplitLaw(t *testing.T) {
	r := rand.New(rand.NewSource(122))
	both := 0
	for range 3000 {
		var recs []api.Record
		for range r.Intn(14) {
			recs = append(recs, pick(r, drawRec(r, 3), api.Record{V: r.Intn(5) - 1, Kind: r.Intn(10) - 1, Saga: r.Intn(5) - 2, Step: r.Intn(99), Data: []byte("x")}))
		}
		live, dead := split(recs)
		if a, b := rewrite.Split(recs...); !sameRecs(a, live) || !sameRecs(b, dead) {
			t.Fatalf("%+v: %+v; %+v", recs, a, b)
		}
		if len(live) > 0 && len(dead) > 0 {
			both++
		}
	}
	if both < 500 {
		t.Errorf("only %d lists had live and dead records", both)
	}
}

// Promise 12.2: a list as long as a log can be is parted without holding each record against each.
func TestSplitOfMany(t *testing.T) {
	const n = 400000
	recs := make([]api.Record, n)
	for i := range recs {
		recs[i] = api.Record{V: 3, Kind: api.KStart, Saga: 1 + i%(n/2)}
		if i >= n/2 && i%2 == 0 {
			recs[i].Kind = api.KEnd
		}
	}
	if live, dead := rewrite.Split(recs...); len(live) != n/2 || len(dead) != n/2 {
		t.Errorf("%d live, %d dead", len(live), len(dead))
	}
}

// Promises 12.1, 12.3 to 12.5, 12.7: each call is just the Replace that the chapter tells, or nothing: on twin stores with room and without, it answers and leaves the same, and meets the disk's going down at the same calls.
func TestTwins(t *testing.T) {
	told := map[string]int{}
	for seed := range int64(400) {
		quota := []int{80, 150, 250, 500, 1 << 16}[seed%5]
		for _, c := range calls {
			d1, s1 := drawn(t, seed, quota)
			d2, s2 := drawn(t, seed, quota)
			was := view(t, d1, s1)
			got, err1 := c.do(s1)
			want, err2 := c.twin(s2)
			if got != want || tell(fault(t, err1).Err) != tell(err2) {
				t.Fatalf("seed %d, %s: %+v, %v, not %+v, %v", seed, c.why, got, err1, want, err2)
			}
			if view(t, d1, s1) != view(t, d2, s2) {
				t.Fatalf("seed %d, %s: %+v is left, not %+v", seed, c.why, s1.Stat(), s2.Stat())
			}
			switch stayed := view(t, d1, s1) == was; {
			case err1 != nil && !stayed:
				t.Fatalf("seed %d, %s is refused, and changes the store", seed, c.why)
			case err1 != nil:
				told[c.why+" refused"]++
			case stayed:
				told[c.why+" for nothing"]++
			default:
				told[c.why]++
			}
		}
	}
	for _, c := range calls {
		if told[c.why] < 50 || told[c.why+" for nothing"] < 20 || told[c.why+" refused"] < 5 {
			t.Errorf("%v", told)
		}
	}
}

// Promises 12.1, 12.3, 12.4, 12.7: the disk's going down ahead of each changing call cuts both off as it would the Replace; what nothing is to be done for is not cut off.
func TestTwinsGoDown(t *testing.T) {
	cut := 0
	for seed := range int64(60) {
		for _, c := range calls {
			for n := 0; ; n++ {
				d1, s1 := drawn(t, seed, 1<<16)
				d2, s2 := drawn(t, seed, 1<<16)
				d1.Arm(n)
				d2.Arm(n)
				was := s1.Stat()
				got, err1 := c.do(s1)
				want, err2 := c.twin(s2)
				if got != want || tell(fault(t, err1).Err) != tell(err2) || view(t, d1, s1) != view(t, d2, s2) {
					t.Fatalf("seed %d, %s, down at %d: %+v, %v, not %+v, %v", seed, c.why, n, got, err1, want, err2)
				}
				if !d1.Down() {
					break
				}
				if err1 == nil || err1.Error() != c.why+": replace: error 60" || s1.Stat() != was {
					t.Fatalf("seed %d, %s, down at %d: %v", seed, c.why, n, err1)
				}
				cut++
			}
		}
	}
	if cut < 500 {
		t.Errorf("only %d calls were cut off", cut)
	}
}

// Promise 12.6: Dead tells what Compact would drop, and changes nothing.
func TestDeadLaw(t *testing.T) {
	for seed := range int64(300) {
		d, s := drawn(t, seed, 1<<16)
		d.Arm(0)
		was := view(t, d, s)
		_, gone := split(listOf(t, s))
		n, k, err := rewrite.Dead(s)
		if err != nil || n != len(gone) || k != len(ids(gone)) || view(t, d, s) != was {
			t.Fatalf("seed %d: %d, %d, %v; %d are dead, of %v", seed, n, k, err, len(gone), ids(gone))
		}
		d.Arm(-1)
		r, err := rewrite.Compact(s)
		if err != nil || r.Before-r.After != n || r.Sagas != k {
			t.Fatalf("seed %d: %+v, %v, but Dead told %d, %d", seed, r, err, n, k)
		}
	}
}

// Promise 12.9: what is live stays, in its order and lifted if something went; all that is left is live; at once again nothing is done; the list never gets longer.
func TestCompactLaw(t *testing.T) {
	for seed := range int64(300) {
		d, s := drawn(t, seed, 1<<16)
		list := listOf(t, s)
		was := s.Stat()
		want, dead := split(list)
		top := was.Top
		if len(dead) > 0 {
			want = lifted(t, was.V, want)
			top = max(top, slices.Max(ids(dead)))
		}
		r, err := rewrite.Compact(s)
		left := listOf(t, s)
		if err != nil || !sameRecs(left, want) || len(left) > len(list) || r.After > r.Before || s.Stat().Top != top || s.Stat().V != was.V {
			t.Fatalf("seed %d: %+v, %v, %+v, not %+v", seed, r, err, left, want)
		}
		if a, b := rewrite.Split(left...); len(a) != len(left) || len(b) != 0 {
			t.Fatalf("seed %d: dead ones are left: %+v", seed, b)
		}
		behind := view(t, d, s)
		d.Arm(0)
		r, err = rewrite.Compact(s)
		now := s.Stat()
		if err != nil || view(t, d, s) != behind || r != (api.Report{Before: len(left), After: len(left), Segs0: now.Segs, Segs1: now.Segs, Bytes0: now.Bytes, Bytes1: now.Bytes}) {
			t.Fatalf("seed %d, at once again: %+v, %v", seed, r, err)
		}
	}
}

// Promise 12.10: an upgrade changes nothing but versions, at once again it does nothing, and it does not matter which of the two comes first.
func TestUpgradeLaw(t *testing.T) {
	for seed := range int64(300) {
		d, s := drawn(t, seed, 1<<16)
		want := lifted(t, 3, listOf(t, s))
		top := s.Stat().Top
		r, err := rewrite.Upgrade(s)
		if err != nil || r.Sagas != 0 || r.Before != len(want) || r.After != len(want) || s.Stat().V != 3 || s.Stat().Top != top || !sameRecs(listOf(t, s), want) {
			t.Fatalf("seed %d: %+v, %v, %+v", seed, r, err, s.Stat())
		}
		behind := view(t, d, s)
		d.Arm(0)
		if _, err := rewrite.Upgrade(s); err != nil || view(t, d, s) != behind {
			t.Fatalf("seed %d, at once again: %v", seed, err)
		}
		d.Arm(-1)
		_, err = rewrite.Compact(s)
		_, other := drawn(t, seed, 1<<16)
		_, err2 := rewrite.Compact(other)
		_, err3 := rewrite.Upgrade(other)
		must(t, errors.Join(err, err2, err3))
		if !sameRecs(listOf(t, s), listOf(t, other)) || s.Stat().Top != other.Stat().Top || s.Stat().V != other.Stat().V {
			t.Fatalf("seed %d: %+v and %+v; Top %d and %d", seed, listOf(t, s), listOf(t, other), s.Stat().Top, other.Stat().Top)
		}
	}
}

// Promises 12.3, 12.4: a store that has all its segments is rewritten to fewer, and takes records again.
func TestAllSegments(t *testing.T) {
	for _, c := range calls {
		_, s := fresh(t, 1<<20, usual)
		for i := 1; ; i++ {
			must(t, s.Append(begin(i%7+1), start(i%7+1)))
			if s.Rotate() != nil {
				break
			}
		}
		must(t, s.Append(end(3)))
		if n := s.Stat().Segs; n != api.MaxSegs {
			t.Fatalf("%d segments", n)
		}
		r, err := c.do(s)
		if err != nil || r.Segs0 != api.MaxSegs || r.Segs1 >= api.MaxSegs || r.Segs1 != s.Stat().Segs || s.Rotate() != nil {
			t.Errorf("%s: %+v, %v", c.why, r, err)
		}
	}
}

// cutOff is a drawn store whose disk goes down at the n-th changing call of a call; false, if it does not any more.
func cutOff(t *testing.T, c call, seed int64, n int) (*disk.Disk, *store.Store, bool) {
	t.Helper()
	d, s := drawn(t, seed, 1<<16)
	d.Arm(n)
	c.do(s)
	return d, s, d.Down()
}

// Promises 12.7, W2: wherever the disk goes down in one of the calls, and whatever survives, the old list is there (of what was pending a beginning) or the new one, whole, each with its Top; and there it stays.
func TestCrashes(t *testing.T) {
	r := rand.New(rand.NewSource(127))
	olds, news := 0, 0
	for seed := range int64(40) {
		_, s := drawn(t, seed, 1<<16)
		list, was := listOf(t, s), s.Stat()
		synced := len(list) - was.Pending
		for _, c := range calls {
			_, s := drawn(t, seed, 1<<16)
			_, err := c.do(s)
			must(t, err)
			next, now := listOf(t, s), s.Stat()
			for n := 0; ; n++ {
				d, _, down := cutOff(t, c, seed, n)
				if !down {
					break
				}
				for range 8 {
					var cuts []api.Cut
					for range r.Intn(12) {
						cuts = append(cuts, api.Cut{Keep: r.Intn(80) - 5, Zero: r.Intn(20) - 5})
					}
					g, e := disk.Load(1<<16, d.Crash(r.Intn(12)-1, cuts...))
					if e != api.OK {
						t.Fatal(e)
					}
					u := opened(t, g, usual)
					got, head := listOf(t, u), u.Stat()
					isOld := head.Top == was.Top && head.Gen == was.Gen && len(got) >= synced && len(got) <= len(list) && sameRecs(got, list[:len(got)])
					isNew := head.Top == now.Top && head.Gen == now.Gen && sameRecs(got, next)
					if !isOld && !isNew {
						t.Fatalf("seed %d, %s, down at %d: %+v, %+v is left", seed, c.why, n, head, got)
					}
					if isOld {
						olds++
					} else {
						news++
					}
					if g, _ := disk.Load(1<<16, g.Crash(r.Intn(3))); !sameRecs(listOf(t, opened(t, g, usual)), got) {
						t.Fatalf("seed %d, %s, down at %d: what was found does not stay", seed, c.why, n)
					}
				}
			}
		}
	}
	if olds < 100 || news < 100 {
		t.Errorf("%d times the old list was left, %d times the new one", olds, news)
	}
}
