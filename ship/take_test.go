package ship_test

import (
	"fmt"
	"math/rand"
	"slices"
	"testing"

	"annals/api"
	"annals/disk"
	"annals/ship"
	"annals/store"
)

// body is the body of an answer: numbers, and what stands behind them.
func body(behind []byte, list ...uint64) []byte { return slices.Concat(numbered('A', list...), behind) }

// Promise 19.6: an answer is read strictly.
func TestAnswerIsStrict(t *testing.T) {
	one, two := records(end(3, 1)), records(ends(3, 1, 2)...)
	many := records(ends(3, 1, 17)...)
	sixteen := records(ends(3, 1, 16)...)
	long := unhex("81 80 40") // 1048577
	for i, c := range []struct {
		body []byte
		good bool
	}{
		{body(one, 1, 0, 1, 0, 1), true}, {body(one, maxNumber, 0, 1, api.MaxID, 1), true}, {body(nil, 1, 0, 0, 0, 0), true}, {body(nil, 1, api.MaxID, api.MaxID, 0, 0), true},
		{body(one, 1, api.MaxID-1, api.MaxID, 0, 1), true}, {body(two, 1, 3, 5, 0, 2), true}, {body(sixteen, 1, 0, 16, 0, 16), true}, {body(sixteen, 1, 0, 17, 0, 16), true}, {body(sixteen, 1, 0, api.MaxID, 0, 16), true},
		// An epoch that may not be, numbers that may not be.
		{body(one, 0, 0, 1, 0, 1), false}, {body(one, maxNumber+1, 0, 1, 0, 1), false}, {body(one, 1<<63, 0, 1, 0, 1), false}, {body(one, 1, 0, 1, 1<<63, 1), false}, {body(nil, 1, 1<<63, 1<<63, 0, 0), false}, {body(sixteen, 1, 0, 1<<63, 0, 16), false},
		{body(one, 1, 1<<64-1, 0, 0, 1), false}, {body(one, 1, 0, 1, 1<<64-1, 1), false},
		// From above total; n another than it must be.
		{body(nil, 1, 2, 1, 0, 0), false}, {body(nil, 1, api.MaxID, 0, 0, 0), false}, {body(one, 1, 1, 0, 0, 1), false}, {body(nil, 1, 0, 1, 0, 0), false}, {body(one, 1, 0, 2, 0, 1), false}, {body(two, 1, 0, 1, 0, 2), false}, {body(one, 1, 1, 1, 0, 1), false},
		{body(many, 1, 0, 17, 0, 17), false}, {body(many[:5*15], 1, 0, 17, 0, 15), false}, {body(nil, 1, 0, 17, 0, 1<<63), false}, {body(nil, 1, 5, 4, 0, 1<<64-1), false},
		// Bytes too few and too many.
		{body(nil), false}, {body(nil, 1), false}, {body(nil, 1, 0), false}, {body(nil, 1, 0, 0), false}, {body(nil, 1, 0, 0, 0), false}, {body([]byte{0}, 1, 0, 0, 0, 0), false}, {body(nil, 1, 0, 1, 0, 1), false},
		{body(two, 1, 0, 1, 0, 1), false}, {body(one, 1, 0, 2, 0, 2), false}, {body(one[:4], 1, 0, 1, 0, 1), false}, {body(append(slices.Clone(one), 0), 1, 0, 1, 0, 1), false},
		{body(long, 1, 0, 1, 0, 1), false}, {body(unhex("84 00 01 07 02 01"), 1, 0, 1, 0, 1), false}, {unhex("41 81 00 00 00 00 00"), false}, {unhex("41 01 80 00 00 00 00"), false}, {unhex("41 01 00 80 00 00 00"), false}, {unhex("41 01 00 00 80 00 00"), false}, {unhex("41 01 00 00 00 80 00"), false},
		// Records that are none of the version 3.
		{body([]byte{0}, 1, 0, 1, 0, 1), false}, {body(unhex("04 01 07 02 00"), 1, 0, 1, 0, 1), false}, {body(unhex("06 01 07 02 01 07 01"), 1, 0, 1, 0, 1), false}, {body(unhex("04 02 01 01 07"), 1, 0, 1, 0, 1), false},
		{body(records(api.Record{V: 1, Kind: api.KStart, Saga: 1}), 1, 0, 1, 0, 1), false}, {body(records(api.Record{V: 1, Kind: api.KBegin, Saga: 1, Step: 2, Data: []byte("pay")}), 1, 0, 1, 0, 1), false},
		{body(slices.Concat(one, unhex("01 00")), 1, 0, 2, 0, 2), false},
		// What is the same in all versions.
		{body(records(end(1, 1)), 1, 0, 1, 0, 1), true}, {body(records(api.Record{V: 2, Kind: api.KStart, Saga: 1, Try: 3}), 1, 0, 1, 0, 1), true},
		// Other letters.
		{unhex("51 01 00 00 00 00"), false}, {unhex("61 01 00 00 00 00"), false}, {unhex("46 01"), false}, {unhex("01 00 00 00 00"), false},
	} {
		d, f := follower(t, 4096)
		was := sight(d)
		ok, err := f.Take(framed(c.body...))
		if c.good && err != nil || !c.good && (chain(t, err) != "take 191" || ok || sight(d) != was || place(f) != "0 0 false") {
			t.Errorf("row %d: %v, %v", i, ok, err)
		}
		if readTwin(framed(c.body...)).some != c.good {
			t.Errorf("row %d: the second reading differs", i)
		}
	}
	_, f := follower(t, 4096)
	for _, msg := range [][]byte{answered(1, 0, 1, 0, end(3, 1)), answered(1, 0, 0, 0), answered(300, 2, 4, 1, ends(3, 300, 301)...)} {
		for _, b := range slices.Concat(broken(msg), [][]byte{nil, {}, asked(1, 0), noted(1, false), noted(1, true)}) {
			if ok, err := f.Take(b); chain(t, err) != "take 191" || ok {
				t.Errorf("% x: %v, %v", b, ok, err)
			}
		}
	}
	if place(f) != "0 0 false" {
		t.Error(place(f))
	}
}

// Promise 19.6: drawn bytes near to answers are answers just where the second reading says so.
func TestReadTwins(t *testing.T) {
	t.Parallel()
	r := rand.New(rand.NewSource(1906))
	number := func() uint64 {
		return pick(r, 0, 0, 1, 1, 2, 16, 17, 127, 128, maxNumber, maxNumber+1, api.MaxID, 1<<63, r.Uint64(), uint64(r.Intn(20)))
	}
	seen := map[bool]int{}
	for range 20000 {
		recs := drawRecs(r, 3, r.Intn(4))
		from := number()
		total := pick(r, from+uint64(len(recs)), number())
		b := body(records(recs...), pick(r, 1, 1, 1, number()), from, total, pick(r, 0, number()), pick(r, uint64(len(recs)), uint64(len(recs)), number()))
		if r.Intn(4) == 0 {
			b = slices.Concat(b[:r.Intn(len(b)+1)], []byte{byte(r.Intn(256))}, b[r.Intn(len(b)+1):])
		}
		msg := framed(b...)
		_, f := follower(t, 1<<16)
		_, err := f.Take(msg)
		is := readTwin(msg).some
		if is && err != nil || !is && chain(t, err) != "take 191" {
			t.Fatalf("% x: %v", msg, err)
		}
		seen[is]++
	}
	if seen[true] < 2000 || seen[false] < 2000 {
		t.Errorf("%v", seen)
	}
}

// step is one Take and what is told behind it.
type step struct {
	msg   []byte
	said  string
	place string
	list  int
}

// play holds the answers of a follower, and where it is behind each.
func play(t *testing.T, d *disk.Disk, f *ship.Follower, steps ...step) {
	t.Helper()
	for i, c := range steps {
		was := sight(d)
		ok, err := f.Take(c.msg)
		said := fmt.Sprint(ok)
		if err != nil {
			said = chain(t, err)
		}
		if said != c.said || place(f) != c.place || f.Store().Stat().Records != c.list || len(listOf(t, f.Store())) != c.list {
			t.Errorf("step %d: %s, %s, %d records, not %s, %s, %d", i, said, place(f), f.Store().Stat().Records, c.said, c.place, c.list)
		}
		if said == "false" && sight(d) != was {
			t.Errorf("step %d: the disk is changed", i)
		}
	}
}

// Promise 19.6: the five cases, in one history.
func TestTake(t *testing.T) {
	d, f := follower(t, 1<<16)
	a, b := ends(3, 1, 40), ends(3, 100, 150)
	play(t, d, f,
		step{part(5, 16, 0, a), "false", "0 0 false", 0},
		step{part(5, 40, 0, a), "false", "0 0 false", 0},
		step{part(5, 0, 0, a[:3]), "true", "5 3 false", 3},
		step{part(5, 0, 0, a[:3]), "false", "5 3 false", 3},
		step{part(5, 3, 0, a[:3]), "false", "5 3 false", 3},
		step{part(5, 2, 0, a[:5]), "false", "5 3 false", 3},
		step{part(5, 4, 0, a[:5]), "false", "5 3 false", 3},
		step{part(4, 0, 0, b), "false", "5 3 false", 3},
		step{part(4, 3, 0, b), "false", "5 3 false", 3},
		step{part(6, 3, 0, b), "false", "5 3 false", 3},
		step{part(6, 16, 0, b[:16]), "false", "5 3 false", 3},
		step{part(5, 3, 0, a), "true", "5 19 false", 19},
		step{part(5, 19, 0, a[:20]), "true", "5 20 false", 20},
		step{part(5, 19, 0, a[:20]), "false", "5 20 false", 20},
	)
	if !sameRecs(listOf(t, f.Store()), a[:20]) || f.Store().Stat().Pending != 0 || f.Store().Stat().Top != 0 {
		t.Errorf("%v", listOf(t, f.Store()))
	}
	// A load: the old list stays till it ends, and what belongs to the old epoch is stale.
	play(t, d, f,
		step{part(6, 0, 7, b[:40]), "true", "6 16 true", 20},
		step{part(6, 0, 7, b[:40]), "false", "6 16 true", 20},
		step{part(5, 20, 0, a), "false", "6 16 true", 20},
		step{part(5, 16, 0, a), "false", "6 16 true", 20},
		step{part(6, 32, 7, b[:40]), "false", "6 16 true", 20},
		step{part(6, 16, 7, b[:16]), "false", "6 16 true", 20},
		step{part(6, 16, 7, b[:20]), "true", "6 20 true", 20},
		step{part(6, 20, 7, b[:39]), "true", "6 36 true", 20},
		step{part(6, 36, 7, b[:38]), "true", "6 38 true", 20},
		step{part(7, 38, 7, b), "false", "6 38 true", 20},
		step{part(6, 38, 8, b[:50]), "true", "6 50 false", 50},
	)
	if !sameRecs(listOf(t, f.Store()), b[:50]) || f.Store().Stat().Top != 8 || f.Store().Stat().Pending != 0 {
		t.Errorf("%v", f.Store().Stat())
	}
	// A load that is overtaken by another epoch; one of an empty list.
	play(t, d, f,
		step{part(7, 0, 9, a), "true", "7 16 true", 50},
		step{part(9, 0, 10, b[:17]), "true", "9 16 true", 50},
		step{part(7, 16, 9, a), "false", "9 16 true", 50},
		step{part(8, 0, 9, a), "false", "9 16 true", 50},
		step{part(9, 16, 10, b[:17]), "true", "9 17 false", 17},
		step{part(10, 0, 10, nil), "true", "10 0 false", 0},
		step{part(10, 0, 10, nil), "false", "10 0 false", 0},
		step{part(10, 0, 10, a[:2]), "true", "10 2 false", 2},
	)
	if !sameRecs(listOf(t, f.Store()), a[:2]) || f.Store().Stat().Top != 10 {
		t.Errorf("%v", f.Store().Stat())
	}
	if b, _ := d.Read("FOLLOW"); string(b) != string(noted(10, false)) {
		t.Errorf("FOLLOW: % x", b)
	}
}

// Promises 19.3, 19.6: a follower that comes back while it was loading has gathered nothing, has no mark, and holds its older list.
func TestComeBackToALoad(t *testing.T) {
	a, b := ends(3, 1, 40), ends(3, 100, 120)
	d, f := follower(t, 1<<16)
	play(t, d, f, step{part(5, 0, 0, a[:3]), "true", "5 3 false", 3}, step{part(6, 0, 7, b), "true", "6 16 true", 3})
	back := func() {
		t.Helper()
		d = newDisk(t, 1<<16, d.Crash(0)...)
		var err error
		f, err = ship.Open(d, 64)
		must(t, err)
	}
	back()
	if place(f) != "6 0 true" || !sameRecs(listOf(t, f.Store()), a[:3]) {
		t.Fatal(place(f))
	}
	play(t, d, f,
		step{part(6, 16, 7, b), "false", "6 0 true", 3},
		step{part(6, 0, 7, b[:18]), "true", "6 16 true", 3},
		step{part(6, 16, 7, b[:18]), "true", "6 18 false", 18},
		step{part(6, 18, 7, b), "true", "6 21 false", 21},
	)
	back()
	if place(f) != "6 21 false" || !sameRecs(listOf(t, f.Store()), b) {
		t.Fatal(place(f))
	}
	play(t, d, f, step{part(7, 0, 7, a), "true", "7 16 true", 21})
	back()
	play(t, d, f, step{part(7, 0, 9, nil), "true", "7 0 false", 0}, step{part(7, 0, 9, nil), "false", "7 0 false", 0})
}

// Promise 19.6: where the end of a load is refused, the follower has what it had gathered ahead of that answer, and its mark; where that is nothing, the next answer sets the mark.
func TestRefusedEnd(t *testing.T) {
	big := api.Record{V: 3, Kind: api.KDone, Saga: 1, Data: make([]byte, 500)}
	list := append(ends(3, 1, 18), big)
	full := `take store replace "" -1 64`
	d, f := follower(t, 600)
	play(t, d, f,
		step{part(2, 0, 0, []api.Record{big, big}), full, "2 0 true", 0},
		step{part(2, 0, 0, nil), "true", "2 0 false", 0},
		step{part(3, 0, 0, list[:18]), "true", "3 16 true", 0},
		step{answered(3, 16, 19, 0, list[16:]...), full, "3 16 true", 0},
		step{answered(3, 16, 19, 0, list[16:]...), full, "3 16 true", 0},
		// The mark is still 18: with 17 the load goes on, with 18 it ends.
		step{part(3, 16, 0, list[:17]), "true", "3 17 true", 0},
		step{answered(3, 17, 19, 0, list[17:]...), full, "3 17 true", 0},
		step{part(3, 17, 0, list[:18]), "true", "3 18 false", 18},
		step{answered(3, 18, 19, 0, big), `take store append "" -1 64`, "3 18 false", 18},
	)
	if !sameRecs(listOf(t, f.Store()), list[:18]) {
		t.Errorf("%v", listOf(t, f.Store()))
	}
	// A refused end of a load that this answer began: the load stays begun, and nothing is gathered.
	play(t, d, f,
		step{part(4, 0, 0, []api.Record{big}), full, "4 0 true", 18},
		step{part(3, 18, 0, list), "false", "4 0 true", 18},
		step{part(4, 0, 0, list[:17]), "true", "4 16 true", 18},
		step{part(5, 0, 0, []api.Record{big}), full, "5 0 true", 18},
		step{part(5, 0, 0, list[:1]), "true", "5 1 false", 1},
	)
}

// Promise 19.6: the room of FOLLOW, to the byte: the old one is still there while the new one is made.
func TestRoomForTheNote(t *testing.T) {
	for _, epoch := range []int{1, 127, 128, maxNumber} {
		size := len(noted(epoch, true))
		for quota := 20; quota < 20+size+3; quota++ {
			d, f := follower(t, quota)
			was := sight(d)
			ok, err := f.Take(part(epoch, 0, 0, ends(3, 1, 40)))
			if quota < 20+size {
				if chain(t, err) != "take 64" || ok || sight(d) != was || place(f) != "0 0 false" {
					t.Errorf("epoch %d, quota %d: %v, %v, %s", epoch, quota, ok, err, place(f))
				}
				continue
			}
			if !ok || err != nil || d.Free() != quota-20-size || f.Place() != (api.Place{Epoch: epoch, Have: 16, Loading: true}) {
				t.Errorf("epoch %d, quota %d: %v, %v, %s", epoch, quota, ok, err, place(f))
			}
			// There are fewer bytes than another one has: what was gathered stays.
			was = sight(d)
			if ok, err := f.Take(part(maxNumber, 0, 0, nil)); epoch < maxNumber && (chain(t, err) != "take 64" || ok || sight(d) != was || f.Place() != (api.Place{Epoch: epoch, Have: 16, Loading: true})) {
				t.Errorf("epoch %d, quota %d: %v, %v, %s", epoch, quota, ok, err, place(f))
			}
		}
	}
}

// Promise 19.6: the changing calls of each way to take an answer, counted by the disk's going down at each.
func TestChangingCalls(t *testing.T) {
	a := ends(3, 1, 40)
	replace := `take store replace "" -1 60`
	for _, c := range []struct {
		ahead [][]byte
		msg   []byte
		calls []string // what is told when the disk goes down at this one
	}{
		{nil, part(1, 0, 0, a), slices.Repeat([]string{"take 60"}, 5)},
		{nil, part(1, 0, 0, a[:2]), slices.Concat(slices.Repeat([]string{"take 60"}, 5), slices.Repeat([]string{replace}, 10), []string{"take 60"})},
		{[][]byte{part(1, 0, 0, a)}, part(1, 16, 0, a), nil},
		{[][]byte{part(1, 0, 0, a[:17])}, part(1, 16, 0, a[:17]), slices.Concat(slices.Repeat([]string{replace}, 19), []string{"take 60"})},
		{[][]byte{part(1, 0, 0, a[:2])}, part(1, 2, 0, a[:3]), []string{`take store append "" -1 60`, `take store sync "" -1 60`}},
		{[][]byte{part(1, 0, 0, a[:2])}, part(1, 2, 0, a[:2]), nil},
		{[][]byte{part(1, 0, 0, a[:2])}, part(1, 1, 0, a[:3]), nil},
		{[][]byte{part(2, 0, 0, a[:2])}, part(1, 0, 0, a), nil},
		{[][]byte{part(2, 0, 0, a[:2])}, part(3, 2, 0, a), nil},
	} {
		for n := range len(c.calls) + 1 {
			d, f := follower(t, 1<<16)
			for _, msg := range c.ahead {
				if ok, err := f.Take(msg); !ok || err != nil {
					t.Fatalf("%v, %v", ok, err)
				}
			}
			d.Arm(n)
			ok, err := f.Take(c.msg)
			if n == len(c.calls) {
				if err != nil || d.Down() {
					t.Errorf("%d calls are not enough: %v", n, err)
				}
			} else if chain(t, err) != c.calls[n] || ok || !d.Down() {
				t.Errorf("down at %d: %v, %v, not %s", n, ok, err, c.calls[n])
			}
		}
	}
}

// Promise 19.6: other errors of the store's are told as they came, and nothing is changed.
func TestNoSegmentsLeft(t *testing.T) {
	d, f := follower(t, 1<<20)
	list := slices.Repeat([]api.Record{{V: 3, Kind: api.KDone, Saga: 1, Data: make([]byte, 60)}}, 200)
	if ok, err := f.Take(part(1, 0, 0, list[:1])); !ok || err != nil {
		t.Fatal(err)
	}
	for n := 1; ; n++ {
		was := view(d, f.Store())
		ok, err := f.Take(part(1, n, 0, list[:n+1]))
		if ok && n < 128 {
			continue
		}
		if chain(t, err) != `take store append "MANIFEST" -1 82` || ok || view(d, f.Store()) != was || place(f) != "1 128 false" {
			t.Errorf("%d: %v, %v, %s", n, ok, err, place(f))
		}
		break
	}
	// A new epoch makes room for more.
	if ok, err := f.Take(part(2, 0, 0, list[:7])); !ok || err != nil || place(f) != "2 7 false" {
		t.Errorf("%v, %v, %s", ok, err, place(f))
	}
}

// Promises 19.3, 19.6: whatever limit a follower has, its list is the same.
func TestLimits(t *testing.T) {
	_, s := leader(t, 1, ends(1, 1, 100)...)
	for _, limit := range []int{64, 1000, 65536} {
		d := newDisk(t, 1<<16)
		f, err := ship.Open(d, limit)
		must(t, err)
		if n, err := ship.Pump(s, f); n != 7 || err != nil || !sameRecs(listOf(t, f.Store()), ends(3, 1, 100)) {
			t.Errorf("%d: %d, %v", limit, n, err)
		}
		u, err := store.Open(newDisk(t, 1<<16, d.Crash(0)...), api.Options{V: 1, Limit: 64})
		if err != nil || !sameRecs(listOf(t, u), ends(3, 1, 100)) {
			t.Errorf("%d: %v", limit, err)
		}
	}
}
