package ship_test

import (
	"bytes"
	"errors"
	"fmt"
	"math"
	"math/rand"
	"slices"
	"sync"
	"testing"

	"annals/api"
	"annals/disk"
	"annals/ship"
	"annals/store"
)

// room is bytes with all their spare room.
func room(b []byte) []byte { return b[:cap(b)] }

// spare is bytes with spare room behind them that is not zero.
func spare(b []byte) []byte { return slices.Concat(b, []byte("behind"))[:len(b)] }

// scribble writes into bytes, and behind their end.
func scribble(b []byte) {
	for i := range room(b) {
		room(b)[i] ^= 0x5a
	}
}

// withData is records all of which have data.
func withData(n int) []api.Record {
	var out []api.Record
	for i := range n {
		out = append(out, api.Record{V: 3, Kind: api.KDone, Saga: 1 + i%3, Step: i % 32, Data: bytes.Repeat([]byte{byte('a' + i)}, 1+i)})
	}
	return out
}

// Promise 19.11: asks and answers that are handed in are not changed, nor the spare room behind them, and they are not kept.
func TestHandedIn(t *testing.T) {
	list := withData(40)
	_, s := leader(t, 3, list...)
	ask := spare(asked(1, 3))
	was := bytes.Clone(room(ask))
	msg, err := ship.Answer(s, ask)
	must(t, err)
	if !bytes.Equal(room(ask), was) {
		t.Error("Answer writes into an ask")
	}
	want := part(1, 3, 0, list)
	scribble(ask)
	if !bytes.Equal(msg, want) {
		t.Error("an answer shares memory with its ask")
	}
	_, f := follower(t, 1<<16)
	for _, from := range []int{0, 16, 32, 40} {
		msg := spare(part(1, from, 0, append(list, withData(5)...)[:max(40, min(from+5, 45))]))
		was := bytes.Clone(room(msg))
		if ok, err := f.Take(msg); !ok || err != nil {
			t.Fatalf("%v, %v", ok, err)
		}
		if !bytes.Equal(room(msg), was) {
			t.Error("Take writes into an answer")
		}
		scribble(msg)
	}
	if !sameRecs(listOf(t, f.Store()), append(list, withData(5)...)) {
		t.Error("Take keeps an answer's memory")
	}
	for _, msg := range broken(want) {
		msg = spare(msg)
		was := bytes.Clone(room(msg))
		f.Take(msg)
		ship.Answer(s, msg)
		if !bytes.Equal(room(msg), was) {
			t.Error("what is refused is written into")
		}
	}
}

// Promise 19.11: the list of followers that is handed to Pump is not changed, nor the room behind it.
func TestHandedToPump(t *testing.T) {
	_, s := leader(t, 3, withData(20)...)
	list := make([]*ship.Follower, 0, 8)
	for range 4 {
		_, f := follower(t, 1<<14)
		list = append(list, f)
	}
	_, other := follower(t, 1<<14)
	list[:5][4] = other
	was := slices.Clone(list[:8])
	if n, err := ship.Pump(s, list...); n != 8 || err != nil || !slices.Equal(list[:8], was) || place(other) != "0 0 false" {
		t.Errorf("%d, %v", n, err)
	}
}

// Promise 19.11: whoever writes into an answer, behind its end too, changes nothing else.
func TestAnswersAreNew(t *testing.T) {
	list := withData(20)
	d, s := leader(t, 3, list...)
	fd, f := follower(t, 1<<16)
	was, own := view(d, s), view(fd, f.Store())
	for range 3 {
		ask, err := f.Ask()
		must(t, err)
		again, _ := f.Ask()
		msg, err := ship.Answer(s, ask)
		must(t, err)
		msg2, _ := ship.Answer(s, ask)
		scribble(ask)
		scribble(msg)
		if !bytes.Equal(again, asked(0, 0)) || !bytes.Equal(msg2, part(1, 0, 0, list)) {
			t.Fatal("two answers share memory")
		}
	}
	if view(d, s) != was || view(fd, f.Store()) != own {
		t.Error("writing into an answer changes a store")
	}
	// What the follower has gathered is its own, whatever its store has told.
	if ok, err := f.Take(part(1, 0, 0, list)); !ok || err != nil {
		t.Fatalf("%v, %v", ok, err)
	}
	if ok, err := f.Take(part(1, 16, 0, list)); !ok || err != nil {
		t.Fatalf("%v, %v", ok, err)
	}
	for _, r := range listOf(t, f.Store()) {
		scribble(r.Data)
	}
	if !sameRecs(listOf(t, f.Store()), list) {
		t.Error("writing into a follower's records changes them")
	}
}

// Promises 19.1, 19.11: a fault that is written into is not met again.
func TestFaultsAreNew(t *testing.T) {
	d, s := leader(t, 3, end(3, 1))
	_, f := follower(t, 25)
	down, g := follower(t, 4096)
	goDown(down)
	for range 3 {
		var got string
		_, e1 := ship.Answer(nil, nil)
		_, e2 := ship.Open(d, 0)
		_, e3 := g.Ask()
		_, e4 := f.Take(part(1, 0, 0, nil))
		_, e5 := ship.Pump(s, nil)
		_, e6 := ship.Pump(s, f)
		for _, err := range []error{e1, e2, e3, e4, e5, e6} {
			got += chain(t, err) + ", "
			var x *ship.Fault
			var y *store.Fault
			if errors.As(err, &y) {
				*y = store.Fault{}
			}
			errors.As(err, &x)
			*x = ship.Fault{Why: "x", Err: api.ErrSum}
		}
		if want := `answer 1, open store open "" -1 93, ask 60, take 64, pump 1, take 64, `; got != want {
			t.Fatalf("%s, not %s", got, want)
		}
	}
}

// Promise 19.11: two followers have nothing in common, and a follower that is opened again on the same disk knows what that disk says alone.
func TestNothingIsShared(t *testing.T) {
	d, f := follower(t, 1<<14)
	_, g := follower(t, 1<<14)
	list := ends(3, 1, 20)
	f.Take(part(4, 0, 0, list))
	if place(g) != "0 0 false" || place(f) != "4 16 true" {
		t.Errorf("%s, %s", place(f), place(g))
	}
	again, err := ship.Open(d, 64)
	must(t, err)
	if place(again) != "4 0 true" || again.Store() == f.Store() {
		t.Errorf("%s", place(again))
	}
	d.Remove("FOLLOW")
	again, err = ship.Open(d, 64)
	must(t, err)
	if place(again) != "0 0 false" {
		t.Errorf("%s", place(again))
	}
}

// Promise 19.11: no call panics or runs on, whatever it is given.
func TestAnythingIsTaken(t *testing.T) {
	t.Parallel()
	r := rand.New(rand.NewSource(1911))
	number := func() int {
		return pick(r, math.MinInt, -1, 0, 1, 2, 3, 16, 17, 64, 65536, maxNumber, math.MaxInt, int(r.Uint64()))
	}
	odd := func() []byte {
		recs := drawRecs(r, 3, r.Intn(3))
		b := pick(r, asked(uint64(number()), uint64(number())), answered(number(), number(), number(), number(), recs...), answered(1, 0, len(recs), 0, recs...), noted(number(), true), nil)
		for range r.Intn(3) {
			b = slices.Concat(b[:r.Intn(len(b)+1)], []byte{byte(r.Intn(256))}, b[r.Intn(len(b)+1):])
		}
		return b
	}
	_, s := leader(t, 3, ends(3, 1, 20)...)
	_, f := follower(t, 1<<14)
	for range 5000 {
		if b, err := ship.Answer(s, odd()); (b == nil) != (err != nil) {
			t.Fatalf("% x, %v", b, err)
		}
		if ok, err := f.Take(odd()); ok && err != nil {
			t.Fatalf("%v, %v", ok, err)
		}
		d := newDisk(t, 50+r.Intn(100), api.File{Name: pick(r, "FOLLOW", "FOLLOW.tmp", "MANIFEST"), Data: odd()[:0]}, api.File{Name: "s1", Data: []byte("x")})
		d.Arm(number())
		g, err := ship.Open(d, number())
		if chain(t, err); (g == nil) != (err != nil) {
			t.Fatalf("%v, %v", g, err)
		}
		if g != nil {
			g.Take(odd())
			if n, err := ship.Pump(s, g); n < 0 || err == nil && g.Place().Have != 20 {
				t.Fatalf("%d, %v", n, err)
			}
		}
	}
}

// meddle changes a disk behind the back of whoever uses it.
func meddle(r *rand.Rand, d *disk.Disk) {
	name, to := "MANIFEST", "s3"
	if l := d.List(); len(l) > 0 {
		name, to = pick(r, l...), pick(r, append(l, "s2", "s3", "MANIFEST.tmp", "FOLLOW", "FOLLOW.tmp")...)
	}
	switch r.Intn(8) {
	case 0:
		d.Remove(name)
	case 1:
		d.Rename(name, to)
	case 2:
		d.Create(to)
	case 3:
		d.Append(name, pick(r, []byte("rubbish"), framed(1, 7, 2, 1), make([]byte, 9)))
	case 4:
		b, _ := d.Read(name)
		d.Truncate(name, r.Intn(len(b)+1))
	case 5:
		d.Append(name, make([]byte, d.Free()))
	case 6:
		d.Arm(r.Intn(30))
	case 7:
		store.Open(d, api.Options{V: 3, Limit: 64})
	}
}

// Rule 3 of the whole, promise 19.1: whoever else changes a leader's or a follower's disk breaks the promises, but nothing panics or runs on, and each error is a fault of this layer.
func TestMeddling(t *testing.T) {
	t.Parallel()
	r := rand.New(rand.NewSource(191))
	seen := map[api.Errno]int{}
	count := func(err error) {
		t.Helper()
		chain(t, err)
		var e api.Errno
		errors.As(err, &e)
		seen[e]++
	}
	for seed := range int64(600) {
		ld, s := drawn(t, seed)
		d, f := follower(t, pick(r, 60, 300, 4000))
		for range 10 {
			if r.Intn(3) == 0 {
				meddle(r, ld)
			}
			if r.Intn(3) == 0 {
				meddle(r, d)
			}
			switch r.Intn(4) {
			case 0:
				_, err := ship.Answer(s, asked(uint64(r.Intn(3)), uint64(r.Intn(30))))
				count(err)
			case 1:
				_, err := f.Take(part(1+r.Intn(3), 0, 0, ends(3, 1, r.Intn(40))))
				count(err)
			case 2:
				_, err := ship.Pump(s, f)
				count(err)
			case 3:
				g, err := ship.Open(d, 64)
				if count(err); err == nil {
					f = g
				}
			}
			f.Place()
		}
	}
	for _, e := range []api.Errno{api.OK, api.ErrLost, api.ErrCorrupt, api.ErrDown, api.ErrFull, api.ErrFollow, api.ErrMissing, api.ErrExists} {
		if seen[e] == 0 {
			t.Errorf("%d is not met: %v", e, seen)
		}
	}
}

// Rule 3 of the whole: a leader whose active segment somebody else has cut tells what is left of it, and does not panic.
func TestCutLeader(t *testing.T) {
	d, s := leader(t, 3, ends(3, 1, 10)...)
	d.Truncate("s1", 5+11*4+3)
	for have := range 12 {
		b, err := ship.Answer(s, asked(1, uint64(have)))
		if have <= 4 && !bytes.Equal(b, part(1, have, 0, ends(3, 1, 4))) || have > 4 && chain(t, err) != "answer 192" {
			t.Errorf("%d: % x, %v", have, b, err)
		}
	}
}

// Promise 19.11: followers and leaders that have nothing in common may be used side by side.
func TestSideBySide(t *testing.T) {
	var group sync.WaitGroup
	for i := range 8 {
		_, s := leader(t, 1+i%3, ends(1, 1, 30+i)...)
		_, f := follower(t, 1<<16)
		_, g := follower(t, 1<<16)
		group.Go(func() {
			for k := range 10 {
				if _, err := ship.Pump(s, f, g); err != nil || place(f) != fmt.Sprint(1, 30+i+k, false) || place(f) != place(g) {
					t.Errorf("worker %d: %v, %s, %s", i, err, place(f), place(g))
				}
				s.Append(end(1, 1))
				s.Sync()
			}
		})
	}
	group.Wait()
}
