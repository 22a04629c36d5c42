package ship_test

import (
	"fmt"
	"math/rand"
	"slices"
	"testing"

	"annals/api"
	"annals/disk"
	"annals/rewrite"
	"annals/ship"
	"annals/store"
)

const worldQuota = 1 << 18

// told is what a leader had synced in an epoch: it only grows.
type told struct {
	list []api.Record
	top  int
}

// world is a leader and its followers, over calls that lose, double and hold back.
type world struct {
	t    *testing.T
	r    *rand.Rand
	ld   *disk.Disk
	s    *store.Store
	book map[int]told // by epoch
	near []*near
	met  map[string]int
}

// near is a follower, with what was under way to it, and how far it was.
type near struct {
	d    *disk.Disk
	f    *ship.Follower
	msgs [][]byte
	was  api.Place
}

func newWorld(t *testing.T, r *rand.Rand, followers int) *world {
	w := &world{t: t, r: r, book: map[int]told{}, met: map[string]int{}}
	w.ld = newDisk(t, worldQuota)
	w.openLeader()
	for range followers {
		d, f := follower(t, worldQuota)
		w.near = append(w.near, &near{d: d, f: f})
	}
	return w
}

func (w *world) openLeader() {
	s, err := store.Open(w.ld, api.Options{V: 1, Limit: pick(w.r, 64, 100, 300)})
	must(w.t, err)
	w.s = s
	w.look()
}

// look keeps what the leader has synced, and holds that within an epoch this only grows.
func (w *world) look() {
	w.t.Helper()
	if w.ld.Down() {
		return
	}
	list, epoch := syncedOf(w.t, w.s), epochOf(w.s)
	old := w.book[epoch]
	if len(list) < len(old.list) || !sameRecs(list[:len(old.list)], old.list) {
		w.t.Fatalf("epoch %d: the leader has %v, and had %v", epoch, list, old.list)
	}
	w.book[epoch] = told{list, w.s.Stat().Top}
}

// lead lets the leader do something, crash too.
func (w *world) lead() {
	r, s := w.r, w.s
	switch r.Intn(16) {
	case 0, 1, 2, 3, 4:
		s.Append(drawRecs(r, s.Stat().V, 1+r.Intn(6))...)
	case 5, 6, 7:
		s.Sync()
	case 8:
		s.Rotate()
	case 9:
		s.Raise(1 + r.Intn(3))
	case 10:
		rewrite.Upgrade(s)
	case 11:
		rewrite.Compact(s)
	case 12:
		w.ld.Arm(r.Intn(14))
	}
	w.look()
	if w.ld.Down() {
		w.met["the leader crashes"]++
		w.ld = newDisk(w.t, worldQuota, w.crash(w.ld)...)
		w.openLeader()
	}
}

// crash is what is left of a disk.
func (w *world) crash(d *disk.Disk) []api.File {
	var cuts []api.Cut
	for range w.r.Intn(14) {
		cuts = append(cuts, api.Cut{Keep: w.r.Intn(60) - 5, Zero: w.r.Intn(30) - 5})
	}
	return d.Crash(w.r.Intn(8)-1, cuts...)
}

// carry lets a follower ask, and brings it answers: the newest, or any that there ever was.
func (w *world) carry(n *near) {
	r := w.r
	if ask, err := n.f.Ask(); err == nil && r.Intn(4) > 0 {
		msg, err := ship.Answer(w.s, ask)
		if err != nil {
			w.t.Fatalf("Answer at %s: %v", place(n.f), err)
		}
		n.msgs = append(n.msgs, msg)
	}
	for len(n.msgs) > 0 && r.Intn(3) > 0 {
		k := len(n.msgs) - 1
		if r.Intn(3) == 0 {
			k = r.Intn(len(n.msgs))
		}
		w.take(n, n.msgs[k])
	}
	if len(w.near) > 1 && len(n.msgs) > 0 && r.Intn(5) == 0 {
		// An answer goes astray, to another follower of the same leader.
		w.take(pick(r, w.near...), pick(r, n.msgs...))
	}
}

// take brings a follower an answer, and looks at it, behind a crash too.
func (w *world) take(n *near, msg []byte) {
	w.t.Helper()
	ok, err := n.f.Take(msg)
	if err != nil && !n.d.Down() {
		w.t.Fatalf("Take: %v", err)
	}
	if ok {
		w.met["taken"]++
	}
	if !n.d.Down() {
		w.hold(n)
		return
	}
	for n.d.Down() {
		w.met["a follower crashes"]++
		n.d = newDisk(w.t, worldQuota, w.crash(n.d)...)
		if w.r.Intn(4) == 0 {
			n.d.Arm(w.r.Intn(4))
		}
		f, err := ship.Open(n.d, pick(w.r, 64, 100, 500))
		if err != nil && !n.d.Down() {
			w.t.Fatalf("Open behind a crash: %v", err)
		}
		n.f = f
	}
	n.d.Arm(-1)
	w.hold(n)
}

// hold holds what is promised of a follower at every moment.
func (w *world) hold(n *near) {
	w.t.Helper()
	p, list := n.f.Place(), listOf(w.t, n.f.Store())
	isOf := func(epoch int) bool {
		l := w.book[epoch].list
		return len(list) <= len(l) && sameRecs(list, l[:len(list)])
	}
	known := len(list) == 0
	for epoch := range w.book {
		known = known || isOf(epoch)
	}
	if !known || p.Epoch > 0 && !p.Loading && (!isOf(p.Epoch) || p.Have != len(list)) {
		w.t.Fatalf("at %s a follower has %v", place(n.f), list)
	}
	if p.Epoch < n.was.Epoch || p.Epoch > epochOf(w.s) {
		w.t.Fatalf("the epoch was %d, and is %d", n.was.Epoch, p.Epoch)
	}
	if p.Epoch == n.was.Epoch && !n.was.Loading && (p.Loading || len(list) < n.was.Have) {
		w.t.Fatalf("the place was %v, and is %v", n.was, p)
	}
	if p.Loading {
		w.met["loading"]++
	}
	if p.Epoch != n.was.Epoch {
		w.met["a new epoch"]++
	}
	n.was = p
}

// calm holds that in the calm a follower gets there, and how fast.
func (w *world) calm(n *near) {
	w.t.Helper()
	taken, total := 0, w.s.Stat().Records-w.s.Stat().Pending
	for {
		ok, err := round(w.s, n.f)
		must(w.t, err)
		w.hold(n)
		if !ok {
			break
		}
		if taken++; taken > total+2 {
			w.t.Fatalf("%d answers of a list of %d", taken, total)
		}
	}
	w.arrived(n)
}

// arrived holds that a follower has all that the leader tells.
func (w *world) arrived(n *near) {
	w.t.Helper()
	epoch := epochOf(w.s)
	want := w.book[epoch]
	if p := n.f.Place(); p != (api.Place{Epoch: epoch, Have: len(want.list)}) || !sameRecs(listOf(w.t, n.f.Store()), want.list) || n.f.Store().Stat().Top != want.top || n.f.Store().Stat().Pending != 0 {
		w.t.Fatalf("%v, Top %d; the leader has %d records in epoch %d, Top %d", p, n.f.Store().Stat().Top, len(want.list), epoch, want.top)
	}
}

// Promises 19.8 to 19.10, W6: a leader that does all that it may, several followers, calls that are lost, doubled, late and go astray, crashes everywhere; and the calm behind it, by hand and by Pump.
func TestWorlds(t *testing.T) {
	t.Parallel()
	met := map[string]int{}
	for seed := range int64(40) {
		r := rand.New(rand.NewSource(seed))
		w := newWorld(t, r, 1+r.Intn(3))
		w.met = met
		for range 4 {
			for range 40 {
				w.lead()
				for _, n := range w.near {
					if r.Intn(30) == 0 {
						n.d.Arm(r.Intn(16))
					}
					w.carry(n)
				}
			}
			w.ld.Arm(-1)
			for _, n := range w.near {
				n.d.Arm(-1)
			}
			w.settle()
		}
	}
	for _, what := range []string{"taken", "loading", "a new epoch", "the leader crashes", "a follower crashes"} {
		if met[what] < 100 {
			t.Errorf("%v", met)
		}
	}
}

// settle lets all followers arrive.
func (w *world) settle() {
	w.t.Helper()
	w.look()
	if w.r.Intn(2) == 0 {
		for _, n := range w.near {
			w.calm(n)
		}
		return
	}
	var fs []*ship.Follower
	for _, n := range w.near {
		fs = append(fs, n.f)
	}
	if _, err := ship.Pump(w.s, fs...); err != nil {
		w.t.Fatalf("Pump: %v", err)
	}
	for _, n := range w.near {
		w.hold(n)
		w.arrived(n)
	}
}

// Promises 19.3, 19.6, 19.8 to 19.10, W6: the follower's disk goes down ahead of each changing call of a history that has all ways to take an answer, and each of many crashes leaves a follower that is not wrong, has not gone back, and gets there.
func TestEachCrash(t *testing.T) {
	t.Parallel()
	_, s := leader(t, 1, ends(1, 1, 20)...)
	var msgs [][]byte
	book := map[int][]api.Record{0: nil}
	tell := func(have int) {
		b, err := ship.Answer(s, asked(uint64(epochOf(s)), uint64(have)))
		must(t, err)
		msgs = append(msgs, b)
		book[epochOf(s)] = syncedOf(t, s)
	}
	tell(0)
	tell(16)
	must(t, s.Append(ends(1, 30, 40)...))
	must(t, s.Append(api.Record{V: 1, Kind: api.KDone, Saga: 50, Data: []byte("data")}))
	must(t, s.Sync())
	tell(20)
	_, err := rewrite.Upgrade(s)
	must(t, err)
	tell(0)
	tell(16)
	_, err = rewrite.Compact(s)
	must(t, err)
	tell(0)
	must(t, s.Append(ends(3, 60, 62)...))
	must(t, s.Sync())
	tell(1)
	done := false
	for n := 0; !done; n++ {
		d, f := follower(t, 1<<14)
		d.Arm(n)
		was := f.Place()
		for _, msg := range msgs {
			if f.Take(msg); d.Down() {
				break
			}
			was = f.Place()
		}
		done = !d.Down()
		if done && (was != api.Place{Epoch: epochOf(s), Have: 4}) {
			t.Fatalf("without a crash: %v", was)
		}
		for keep := range 8 {
			for k := 0; k < 60; k += 1 + k/4 {
				left := d.Crash(keep, slices.Repeat([]api.Cut{{Keep: k, Zero: k % 7}}, 20)...)
				behind(t, fmt.Sprintf("down at %d, keep %d, cut %d", n, keep, k), left, was, book, s)
			}
		}
	}
}

// behind holds what a crash left of a follower.
func behind(t *testing.T, what string, left []api.File, was api.Place, book map[int][]api.Record, s *store.Store) {
	t.Helper()
	d := newDisk(t, 1<<14, left...)
	f, err := ship.Open(d, 64)
	if err != nil {
		t.Fatalf("%s: %v", what, err)
	}
	p, list := f.Place(), listOf(t, f.Store())
	own := book[p.Epoch]
	switch {
	case p.Epoch < was.Epoch, p.Epoch == was.Epoch && !was.Loading && (p.Loading || p.Have < was.Have):
		t.Fatalf("%s: it was at %v, and is at %v", what, was, p)
	case !p.Loading && (len(list) > len(own) || !sameRecs(list, own[:len(list)])):
		t.Fatalf("%s: at %v it has %v", what, p, list)
	case p.Loading && !slices.ContainsFunc([]int{0, 1, 2, 3, 4, 5, 6, 7, 8, 9}, func(epoch int) bool {
		return sameRecs(list, book[epoch]) || len(list) <= len(book[epoch]) && sameRecs(list, book[epoch][:len(list)])
	}):
		t.Fatalf("%s: at %v it has %v", what, p, list)
	}
	if _, err := ship.Pump(s, f); err != nil || !sameRecs(listOf(t, f.Store()), syncedOf(t, s)) || f.Store().Stat().Top != s.Stat().Top {
		t.Fatalf("%s: it does not get there: %v, %s", what, err, place(f))
	}
}

// Promise 19.10: how many answers a follower takes of a list, and of one that it has a part of.
func TestHowMany(t *testing.T) {
	for _, n := range []int{0, 1, 15, 16, 17, 31, 32, 33, 100} {
		_, s := leader(t, 2, ends(2, 1, n)...)
		_, f := follower(t, 1<<16)
		if got, err := ship.Pump(s, f); err != nil || got != max(1, (n+15)/16) || place(f) != fmt.Sprint(1, n, false) {
			t.Errorf("%d records: %d, %v, %s", n, got, err, place(f))
		}
		must(t, s.Append(ends(2, 200, 203)...))
		must(t, s.Sync())
		if got, err := ship.Pump(s, f); err != nil || got != 1 || !sameRecs(listOf(t, f.Store()), syncedOf(t, s)) {
			t.Errorf("%d records and 4 more: %d, %v", n, got, err)
		}
		if got, err := ship.Pump(s, f); err != nil || got != 0 {
			t.Errorf("again: %d, %v", got, err)
		}
	}
}

// Promise 19.8: a follower's store is a leader to another follower.
func TestChain(t *testing.T) {
	_, s := leader(t, 1, ends(1, 1, 50)...)
	_, f := follower(t, 1<<16)
	_, g := follower(t, 1<<16)
	for range 3 {
		for _, c := range []struct {
			s *store.Store
			f *ship.Follower
		}{{s, f}, {f.Store(), g}} {
			if _, err := ship.Pump(c.s, c.f); err != nil || !sameRecs(listOf(t, c.f.Store()), syncedOf(t, s)) || c.f.Store().Stat().Top != s.Stat().Top {
				t.Fatalf("%v, %s", err, place(c.f))
			}
		}
		must(t, s.Append(ends(1, 7, 9)...))
		must(t, s.Sync())
		must(t, s.Replace(1, s.Stat().Top+5, listOf(t, s)[:30]...))
	}
}
