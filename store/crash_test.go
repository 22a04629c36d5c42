package store_test

import (
	"fmt"
	"math/rand"
	"slices"
	"testing"

	"annals/api"
	"annals/disk"
	"annals/store"
)

// act is one call of a history, and what it adds or puts in the place of all.
type act struct {
	name    string
	call    func(s *store.Store) error
	adds    []api.Record
	puts    []api.Record
	replace bool
}

func adding(recs ...api.Record) act {
	return act{name: "Append", call: func(s *store.Store) error { return s.Append(recs...) }, adds: recs}
}

func putting(v, top int, recs ...api.Record) act {
	return act{name: "Replace", call: func(s *store.Store) error { return s.Replace(v, top, recs...) }, puts: lifted(v, recs), replace: true}
}

func syncing() act  { return act{name: "Sync", call: (*store.Store).Sync} }
func rotating() act { return act{name: "Rotate", call: (*store.Store).Rotate} }
func raising(v int) act {
	return act{name: "Raise", call: func(s *store.Store) error { return s.Raise(v) }}
}

// view is what is known of a store between two calls.
type view struct {
	list []api.Record
	stat api.Stat
}

func viewOf(t *testing.T, s *store.Store) view {
	t.Helper()
	l, err := s.Records()
	if err != nil {
		t.Fatal(err)
	}
	return view{l, s.Stat()}
}

// head is the numbers that a crash leaves as they were or makes new.
func (v view) head() string { return fmt.Sprint(v.stat.Gen, v.stat.V, v.stat.Next, v.stat.Top) }

// may is what a crash in a call may leave: what was there, with any number of the pending records, or the new list.
type may struct {
	before, after view
	synced        int
	pending       []api.Record // those of the Append in which the disk went down at their end
	a             act
}

// allows tells whether a store behind the crash is one that may be.
func (m may) allows(got view) bool {
	head := got.head()
	if m.a.replace {
		return isBetween(got.list, m.before.list, m.synced, m.pending) && head == m.before.head() || sameRecs(got.list, m.a.puts) && head == m.after.head()
	}
	return isBetween(got.list, m.before.list, m.synced, m.pending) && (head == m.before.head() || head == m.after.head())
}

// isBetween tells whether a list is the first synced records of another and a prefix of those that were pending behind them.
func isBetween(got, list []api.Record, synced int, pending []api.Record) bool {
	n := len(got) - synced
	return n >= 0 && n <= len(pending) && sameRecs(got[:synced], list[:synced]) && sameRecs(got[synced:], pending[:n])
}

// views is a history without a crash: the store ahead of each call, and behind the last.
func views(t *testing.T, quota int, history []act) []view {
	t.Helper()
	_, s := fresh(t, quota, usual)
	out := []view{viewOf(t, s)}
	for _, a := range history {
		// What is refused, for want of room or otherwise, leaves the view as it was.
		a.call(s)
		out = append(out, viewOf(t, s))
	}
	return out
}

// cutOff plays a history till the disk goes down at its n-th changing call; false, if it does not any more.
func cutOff(t *testing.T, quota, n int, history []act, seen []view) (*disk.Disk, may, bool) {
	t.Helper()
	d, s := fresh(t, quota, usual)
	d.Arm(n)
	for i, a := range history {
		a.call(s)
		if !d.Down() {
			continue
		}
		b := seen[i]
		synced := len(b.list) - b.stat.Pending
		m := may{before: b, after: seen[i+1], synced: synced, pending: slices.Concat(b.list[synced:], lifted(b.stat.V, a.adds)), a: a}
		return d, m, true
	}
	last := seen[len(history)]
	synced := len(last.list) - last.stat.Pending
	return d, may{before: last, after: last, synced: synced, pending: last.list[synced:]}, false
}

// each goes through what a crash may leave: each number of name changes, and each cut of what is not synced up to most bytes.
func each(d *disk.Disk, most int, do func(left []api.File)) {
	for keep := 0; ; keep++ {
		for k := range most {
			for _, z := range []int{0, 1, 99} {
				do(d.Crash(keep, slices.Repeat([]api.Cut{{Keep: k, Zero: z}}, 40)...))
			}
		}
		if raw(d.Crash(keep)) == raw(d.Crash(keep+1)) && raw(d.Crash(keep)) == raw(d.Crash(1<<30)) {
			return
		}
	}
}

// drawnCut is one crash of many.
func drawnCut(r *rand.Rand, d *disk.Disk) []api.File {
	var cuts []api.Cut
	for range r.Intn(12) {
		cuts = append(cuts, api.Cut{Keep: r.Intn(60) - 5, Zero: r.Intn(30) - 5})
	}
	return d.Crash(r.Intn(8)-1, cuts...)
}

// play is a history that makes each kind of call, with and without a new segment.
func play() []act {
	data := api.Record{V: 1, Kind: api.KDone, Saga: 3, Data: []byte("some data")}
	return []act{
		adding(ends(1, 1, 2)...), syncing(), adding(ends(1, 3)...), adding(data, end(1, 2)), adding(ends(1, 1)...), adding(data),
		rotating(), adding(ends(1, 4, 4)...), raising(2), adding(ends(1, 5)...), adding(ends(2, 6, 1)...), syncing(),
		putting(2, 7, ends(2, 1, 2, 3, 4, 5, 6, 7)...), adding(ends(2, 1, 2)...), raising(3), raising(3), adding(data), rotating(), rotating(),
		putting(3, 3), adding(data, data, data, data), adding(ends(3, 9)...),
	}
}

// Promises 9.13, 9.15, W2: the disk goes down at each changing call of a history, and each of the crashes that are gone through leaves a store that is between two syncs.
func TestEachCrash(t *testing.T) {
	t.Parallel()
	history := play()
	seen := views(t, 1<<16, history)
	none, some, all, fresh := 0, 0, 0, 0
	for n := 0; ; n++ {
		d, m, down := cutOff(t, 1<<16, n, history, seen)
		each(d, 44, func(left []api.File) {
			s, err := store.Open(loaded(t, 1<<16, left...), api.Options{V: 1 + n%3, Limit: 64 + n})
			if err != nil {
				t.Fatalf("down at %d: %v over %s", n, err, tell(left))
			}
			got := viewOf(t, s)
			if !m.allows(got) || got.stat.Pending != 0 {
				t.Fatalf("down at %d, in %s: the crash leaves %v, %+v; %d were synced of %v, then %v", n, m.a.name, got.list, got.stat, m.synced, m.before.list, m.pending)
			}
			switch left := len(got.list) - m.synced; {
			case m.a.replace && got.head() == m.after.head():
				fresh++
			case left == 0:
				none++
			case left < len(m.pending):
				some++
			default:
				all++
			}
		})
		if !down {
			break
		}
	}
	if none == 0 || some == 0 || all == 0 || fresh == 0 {
		t.Errorf("of what was pending none was left %d times, some %d, all %d; %d times the new list", none, some, all, fresh)
	}
}

// Promises 9.13, 9.14, W2: drawn histories on small disks, so that some calls are refused for want of room; the crash behind the crash, and a crash within the Open between, leave the same list.
func TestDrawnCrashes(t *testing.T) {
	t.Parallel()
	r := rand.New(rand.NewSource(913))
	for range 40 {
		quota := pick(r, 60, 100, 150, 250, 500, 2000)
		var history []act
		for range 12 {
			v := 1
			history = append(history, pick(r, adding(drawRecs(r, v, 1+r.Intn(3))...), adding(drawRecs(r, v, 1)...), adding(drawRecs(r, v, 1)...), syncing(), rotating(), putting(3, r.Intn(9), drawRecs(r, v, r.Intn(8))...)))
		}
		history[r.Intn(len(history))] = raising(2)
		seen := views(t, quota, history)
		for n := 0; ; n++ {
			d, m, down := cutOff(t, quota, n, history, seen)
			for range 6 {
				left := drawnCut(r, d)
				g := loaded(t, quota, left...)
				s, err := store.Open(g, api.Options{V: 1 + r.Intn(3), Limit: pick(r, 64, 100, 65536)})
				if err != nil {
					t.Fatalf("down at %d: %v over %s", n, err, tell(left))
				}
				got := viewOf(t, s)
				if !m.allows(got) {
					t.Fatalf("down at %d, in %s: the crash leaves %v, %+v", n, m.a.name, got.list, got.stat)
				}
				stays(t, r, quota, left, g, got)
			}
			if !down {
				break
			}
		}
	}
}

// stays holds that what was found is found again: behind a crash at once, and behind one within the Open.
func stays(t *testing.T, r *rand.Rand, quota int, left []api.File, g *disk.Disk, want view) {
	t.Helper()
	again := func(what string, files []api.File) {
		s, err := store.Open(loaded(t, quota, files...), usual)
		if err != nil {
			t.Fatalf("%s: %v", what, err)
		}
		if got := viewOf(t, s); !sameRecs(got.list, want.list) || got.head() != want.head() {
			t.Fatalf("%s: %v, %+v, not %v, %+v", what, got.list, got.stat, want.list, want.stat)
		}
	}
	for range 3 {
		again("another crash", drawnCut(r, g))
	}
	for n := 0; ; n++ {
		h := loaded(t, quota, left...)
		h.Arm(n)
		if _, err := store.Open(h, usual); err == nil {
			return
		}
		for range 3 {
			again("a crash within the Open", drawnCut(r, h))
		}
	}
}

// Promise 9.13: a crash within the Open that makes the store: the next one makes it, with its own version, or finds the one that the first made; in both cases it has no record.
func TestCrashInTheMaking(t *testing.T) {
	for _, files := range [][]api.File{nil, leftovers()} {
		size := 20
		for _, f := range files {
			if !isStores(f.Name) {
				size += len(f.Data)
			}
		}
		found := map[int]int{}
		for quota := max(size, 80); quota < 84; quota++ {
			for n := 0; ; n++ {
				d := loaded(t, quota, files...)
				d.Arm(n)
				_, err := store.Open(d, api.Options{V: 2, Limit: 64})
				each(d, 20, func(left []api.File) {
					g := loaded(t, quota, left...)
					_, had := slices.BinarySearchFunc(left, "MANIFEST", func(f api.File, name string) int {
						return slices.Compare([]byte(f.Name), []byte(name))
					})
					s := opened(t, g, api.Options{V: 3, Limit: 100})
					want := map[bool]int{true: 2, false: 3}[had]
					if got := s.Stat(); got != (api.Stat{Gen: 1, V: want, Next: 2, Segs: 1, Size: 5, Bytes: 5}) {
						t.Fatalf("down at %d: %+v over %s", n, got, tell(left))
					}
					found[want]++
				})
				if err == nil {
					break
				}
			}
		}
		if found[2] == 0 || found[3] == 0 {
			t.Errorf("both may come: %v", found)
		}
	}
}

// Promises 9.13, W2: a disk that is full to the last byte opens again.
func TestFullDisk(t *testing.T) {
	for quota := 31; quota < 140; quota++ {
		d, s := fresh(t, quota, usual)
		for s.Append(end(1, 1)) == nil {
		}
		s.Rotate()
		s.Replace(1, 0, ends(1, 1, 2)...)
		s.Raise(2)
		got := viewOf(t, s)
		for _, keep := range []int{0, 9} {
			u := opened(t, loaded(t, quota, d.Crash(keep, slices.Repeat([]api.Cut{{Keep: 999}}, 9)...)...), usual)
			if now := viewOf(t, u); !sameRecs(now.list, got.list) || now.head() != got.head() {
				t.Errorf("quota %d: %+v, not %+v", quota, now.stat, got.stat)
			}
		}
	}
}
