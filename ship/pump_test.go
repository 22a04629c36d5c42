package ship_test

import (
	"errors"
	"math/rand"
	"runtime"
	"slices"
	"testing"
	"time"

	"annals/api"
	"annals/disk"
	"annals/ship"
	"annals/store"
)

// Promises 19.1, 19.7: what Pump refuses, ahead of all: no follower is asked then.
func TestPumpRefusals(t *testing.T) {
	_, s := leader(t, 1, ends(1, 1, 3)...)
	_, f := follower(t, 4096)
	_, g := follower(t, 4096)
	_, h := follower(t, 4096)
	for i, c := range []struct {
		s  *store.Store
		fs []*ship.Follower
	}{
		{nil, nil}, {nil, []*ship.Follower{f}}, {nil, []*ship.Follower{nil}}, {nil, []*ship.Follower{f, f}},
		{s, []*ship.Follower{nil}}, {s, []*ship.Follower{f, nil}}, {s, []*ship.Follower{nil, f, g}}, {s, []*ship.Follower{nil, nil}},
		{s, []*ship.Follower{f, f}}, {s, []*ship.Follower{f, g, f}}, {s, []*ship.Follower{f, g, h, h}}, {s, []*ship.Follower{f, g, g, h}},
	} {
		if n, err := ship.Pump(c.s, c.fs...); n != 0 || chain(t, err) != "pump 1" {
			t.Errorf("row %d: %d, %v", i, n, err)
		}
	}
	for _, x := range []*ship.Follower{f, g, h} {
		if place(x) != "0 0 false" {
			t.Error("a follower was pumped")
		}
	}
	if n, err := ship.Pump(s, f, g, h); n != 3 || err != nil {
		t.Errorf("%d, %v", n, err)
	}
}

// Promise 19.7: without a follower nothing is asked, not even a disk that is down.
func TestPumpNobody(t *testing.T) {
	d, s := leader(t, 1, end(1, 1))
	if n, err := ship.Pump(s); n != 0 || err != nil {
		t.Errorf("%d, %v", n, err)
	}
	goDown(d)
	if n, err := ship.Pump(s); n != 0 || err != nil {
		t.Errorf("%d, %v", n, err)
	}
	_, f := follower(t, 4096)
	if n, err := ship.Pump(s, f); n != 0 || chain(t, err) != `answer store records "" -1 60` {
		t.Errorf("%d, %v", n, err)
	}
}

// states is followers in all the states from which Pump may begin; each call makes them anew.
func states(t *testing.T) ([]*disk.Disk, []*ship.Follower) {
	t.Helper()
	var ds []*disk.Disk
	var fs []*ship.Follower
	add := func(quota int, msgs ...[]byte) *disk.Disk {
		d, f := follower(t, quota)
		for _, msg := range msgs {
			if ok, err := f.Take(msg); !ok || err != nil {
				t.Fatalf("%v, %v", ok, err)
			}
		}
		ds, fs = append(ds, d), append(fs, f)
		return d
	}
	list := ends(3, 1, 100)
	add(1 << 16)
	add(50)
	add(25)
	add(1<<16, part(1, 0, 0, list))
	add(1<<16, part(1, 0, 0, list[:7]))
	add(1<<16, part(1, 0, 0, list[:7]), part(1, 7, 0, list))
	add(1<<16, part(2, 0, 0, list))
	add(1<<16, part(1, 0, 0, nil))
	add(1<<16, part(1, 0, 0, ends(3, 1, 16)), part(1, 16, 0, list), part(1, 32, 0, list), part(1, 48, 0, list), part(1, 64, 0, list), part(1, 80, 0, list), part(1, 96, 0, ends(3, 1, 110)))
	goDown(add(1 << 16))
	add(1 << 16).Arm(17)
	add(700, part(1, 0, 0, list[:1]))
	return ds, fs
}

// byHand is Pump by its words, one follower after the other.
func byHand(s *store.Store, fs []*ship.Follower) (int, error) {
	taken := 0
	var first error
	for _, f := range fs {
		for {
			ok, err := round(s, f)
			if first == nil {
				first = err
			}
			if err != nil || !ok {
				break
			}
			taken++
		}
	}
	return taken, first
}

// Promise 19.7: drawn followers in drawn orders, some of which meet errors: number, error, each follower and its disk are as if they had been pumped one after the other; and the leader's store is as it was.
func TestPumpTwins(t *testing.T) {
	t.Parallel()
	ld, s := leader(t, 1, ends(1, 1, 100)...)
	was := view(ld, s)
	r := rand.New(rand.NewSource(197))
	seen := map[string]int{}
	for range 60 {
		ds, fs := states(t)
		es, gs := states(t)
		order := r.Perm(len(fs))[:r.Intn(len(fs)+1)]
		if r.Intn(4) == 0 {
			// Only such as meet no error.
			order = slices.DeleteFunc(order, func(k int) bool { return !slices.Contains([]int{0, 3, 4, 5, 7}, k) })
		}
		var list, twins []*ship.Follower
		for _, k := range order {
			list, twins = append(list, fs[k]), append(twins, gs[k])
		}
		n, err := ship.Pump(s, list...)
		m, want := byHand(s, twins)
		if n != m || chain(t, err) != chain(t, want) {
			t.Fatalf("%v: %d, %v, not %d, %v", order, n, err, m, want)
		}
		seen[chain(t, err)]++
		for k := range fs {
			if view(ds[k], fs[k].Store()) != view(es[k], gs[k].Store()) || fs[k].Place() != gs[k].Place() {
				t.Fatalf("%v: follower %d is at %s, not at %s", order, k, place(fs[k]), place(gs[k]))
			}
		}
	}
	if view(ld, s) != was {
		t.Error("the leader's store is changed")
	}
	for _, k := range []string{"", "take 64", `take store replace "" -1 64`, "answer 192", "ask 60", `take store replace "" -1 60`, `take store append "" -1 64`} {
		if seen[k] == 0 {
			t.Errorf("%q is not met: %v", k, seen)
		}
	}
}

// Promise 19.7: the error is that of the first follower that had one, whichever had it first; all others get there.
func TestPumpError(t *testing.T) {
	_, s := leader(t, 1, ends(1, 1, 100)...)
	for range 30 {
		_, slow := follower(t, 100)
		_, quick := follower(t, 25)
		_, good := follower(t, 1<<16)
		// The slow one meets its error behind six answers, the quick one at once.
		if n, err := ship.Pump(s, good, slow, quick); n != 13 || chain(t, err) != `take store replace "" -1 64` || place(good) != "1 100 false" || place(slow) != "1 96 true" || place(quick) != "0 0 false" {
			t.Fatalf("%d, %v", n, err)
		}
		if n, err := ship.Pump(s, quick, slow, good); n != 0 || chain(t, err) != "take 64" {
			t.Fatalf("%d, %v", n, err)
		}
	}
}

// Rule 8 of the whole, promises 19.7, 19.11: many followers; all goroutines have ended when Pump answers, whatever it answers.
func TestManyFollowers(t *testing.T) {
	_, s := leader(t, 3, ends(3, 1, 50)...)
	before := runtime.NumGoroutine()
	for round := range 5 {
		var fs []*ship.Follower
		for k := range 100 {
			_, f := follower(t, pick(rand.New(rand.NewSource(int64(k*7+round))), 25, 1<<14))
			fs = append(fs, f)
		}
		whole := 0
		n, err := ship.Pump(s, fs...)
		for _, f := range fs {
			if place(f) == "1 50 false" {
				whole++
			}
		}
		if n != 4*whole || whole == 0 || whole == 100 || !errors.Is(err, api.ErrFull) {
			t.Fatalf("%d answers, %d are there, %v", n, whole, err)
		}
		ship.Pump(s, fs[0], fs[0])
	}
	// A goroutine that has let go of its WaitGroup may still be counted for a moment.
	for range 100 {
		if runtime.NumGoroutine() <= before {
			return
		}
		time.Sleep(time.Millisecond)
	}
	t.Errorf("%d goroutines, not %d", runtime.NumGoroutine(), before)
}
