package ship_test

import (
	"fmt"
	"math/rand"
	"slices"
	"testing"

	"annals/api"
	"annals/disk"
	"annals/ship"
	"annals/store"
)

// twin is a second reading of what the chapter says of a follower: it keeps the place as numbers, and on a disk of its own makes the chapter's calls by hand.
type twin struct {
	d        *disk.Disk
	s        *store.Store
	epoch    int
	loading  bool
	gathered []api.Record
	mark     int // -1: there is none
}

// openTwin is Open by the chapter's words, and the error as a chain.
func openTwin(t *testing.T, d *disk.Disk, limit int) (*twin, string) {
	s, err := store.Open(d, api.Options{V: 3, Limit: limit})
	if err == nil && s.Stat().V < 3 {
		err = s.Raise(3)
	}
	if err != nil {
		return nil, "open " + beneath(t, err)
	}
	if slices.Contains(d.List(), "FOLLOW.tmp") && (d.Remove("FOLLOW.tmp") != api.OK || d.SyncDir() != api.OK) {
		return nil, "open 60"
	}
	w := &twin{d: d, s: s, mark: -1}
	b, e := d.Read("FOLLOW")
	if e == api.ErrMissing {
		return w, ""
	}
	// What may stand there is written, and held against what stands there.
	for epoch := 1; epoch < 300; epoch++ {
		for _, loading := range []bool{false, true} {
			if string(b) == string(noted(epoch, loading)) {
				w.epoch, w.loading = epoch, loading
				return w, ""
			}
		}
	}
	return nil, "open 193"
}

func (w *twin) have() int {
	switch {
	case w.epoch == 0:
		return 0
	case w.loading:
		return len(w.gathered)
	}
	return w.s.Stat().Records
}

func (w *twin) place() string { return fmt.Sprint(w.epoch, w.have(), w.loading) }

func (w *twin) ask() ([]byte, string) {
	if w.d.Down() {
		return nil, "ask 60"
	}
	return asked(uint64(w.epoch), uint64(w.have())), ""
}

// take is Take by the chapter's words.
func (w *twin) take(t *testing.T, msg []byte) (bool, string) {
	if w.d.Down() {
		return false, "take 60"
	}
	m := readTwin(msg)
	if !m.some {
		return false, "take 191"
	}
	if m.epoch < w.epoch {
		return false, ""
	}
	if m.epoch == w.epoch && !w.loading {
		if m.from != w.have() || len(m.recs) == 0 {
			return false, ""
		}
		if err := w.s.Append(m.recs...); err != nil {
			return false, "take " + beneath(t, err)
		}
		if err := w.s.Sync(); err != nil {
			return false, "take " + beneath(t, err)
		}
		return true, ""
	}
	if m.epoch == w.epoch {
		if m.from != w.have() || len(m.recs) == 0 && w.have() > 0 {
			return false, ""
		}
		return w.gather(t, m)
	}
	if m.from != 0 {
		return false, ""
	}
	if b := noted(m.epoch, true); w.d.Free() < len(b) {
		return false, "take 64"
	} else if w.d.Create("FOLLOW.tmp") != api.OK || w.d.Append("FOLLOW.tmp", b) != api.OK || w.d.Sync("FOLLOW.tmp") != api.OK || w.d.Rename("FOLLOW.tmp", "FOLLOW") != api.OK || w.d.SyncDir() != api.OK {
		return false, "take 60"
	}
	w.epoch, w.loading, w.gathered, w.mark = m.epoch, true, nil, -1
	return w.gather(t, m)
}

func (w *twin) gather(t *testing.T, m message) (bool, string) {
	mark := w.mark
	if mark < 0 {
		mark = m.total
	}
	all := slices.Concat(w.gathered, m.recs)
	if len(all) < mark {
		w.gathered, w.mark = all, mark
		return true, ""
	}
	if err := w.s.Replace(3, m.top, all...); err != nil {
		return false, "take " + beneath(t, err)
	}
	if w.d.Truncate("FOLLOW", len(noted(m.epoch, false))) != api.OK {
		return false, "take 60"
	}
	w.loading, w.gathered, w.mark = false, nil, -1
	return true, ""
}

// pair is a follower and its twin, each on a disk of its own.
type pair struct {
	t     *testing.T
	quota int
	limit int
	d     *disk.Disk
	f     *ship.Follower
	w     *twin
}

// open opens both over these files; the disks go down at the n-th changing call.
func (p *pair) open(n int, files ...api.File) {
	p.t.Helper()
	p.d = newDisk(p.t, p.quota, files...)
	e := newDisk(p.t, p.quota, files...)
	p.d.Arm(n)
	e.Arm(n)
	f, err := ship.Open(p.d, p.limit)
	w, want := openTwin(p.t, e, p.limit)
	if got := chain(p.t, err); got != want || (f == nil) != (err != nil) || sight(p.d) != sight(e) {
		p.t.Fatalf("Open, down at %d: %q, not %q", n, got, want)
	}
	p.f, p.w = f, w
	if f != nil {
		p.alike("Open")
	}
}

// alike holds the two against each other.
func (p *pair) alike(what string) {
	p.t.Helper()
	if sight(p.d) != sight(p.w.d) {
		p.t.Fatalf("%s: the disk has %s, not %s", what, raw(p.d.Files()), raw(p.w.d.Files()))
	}
	ask, err := p.f.Ask()
	b, want := p.w.ask()
	if chain(p.t, err) != want || string(ask) != string(b) {
		p.t.Fatalf("%s, Ask: % x, %v, not % x, %s", what, ask, err, b, want)
	}
	if p.d.Down() {
		return
	}
	if place(p.f) != p.w.place() || p.f.Store().Stat() != p.w.s.Stat() || !sameRecs(listOf(p.t, p.f.Store()), listOf(p.t, p.w.s)) {
		p.t.Fatalf("%s: %s, not %s; %+v, not %+v", what, place(p.f), p.w.place(), p.f.Store().Stat(), p.w.s.Stat())
	}
}

// take gives both an answer, and is what they say.
func (p *pair) take(msg []byte) string {
	p.t.Helper()
	was := p.w.place()
	own := p.f.Store()
	ok, err := p.f.Take(msg)
	okTwin, want := p.w.take(p.t, msg)
	what := fmt.Sprintf("Take at %s: % x", was, msg)
	if chain(p.t, err) != want || ok != okTwin {
		p.t.Fatalf("%s: %v, %v, not %v, %s", what, ok, err, okTwin, want)
	}
	p.alike(what)
	if p.f.Store() != own {
		p.t.Fatalf("%s: the store is another one", what)
	}
	if want == "" {
		return fmt.Sprint(ok)
	}
	return fmt.Sprint(ok, " ", want)
}

// drawMessage is an answer of a leader in one of some epochs: mostly one that the follower waits for, often a stale or an early one, sometimes broken bytes.
func drawMessage(t *testing.T, r *rand.Rand, lists map[int][]api.Record, at api.Place) []byte {
	epoch := max(1, at.Epoch+pick(r, 0, 0, 0, 0, 0, 0, -1, 1, 2))
	if len(lists[epoch]) == 0 && r.Intn(4) > 0 {
		lists[epoch] = lifted(t, drawRecs(r, 3, pick(r, 1, 5, 16, 17, 30, 32, 40, 80)))
	}
	whole := lists[epoch]
	total := len(whole) - r.Intn(min(len(whole)+1, 1+r.Intn(20)))
	from := pick(r, at.Have, at.Have, at.Have, at.Have, 0, r.Intn(total+1))
	msg := part(epoch, min(from, total), pick(r, 0, 3, 300), whole[:total])
	if r.Intn(20) == 0 {
		msg = pick(r, broken(msg)...)
	}
	return msg
}

// Promises 19.1, 19.3 to 19.6: drawn answers to followers on disks of all sizes, that go down at any changing call and crash: each answer, place, list, file, changing call is the twin's.
func TestTwins(t *testing.T) {
	t.Parallel()
	r := rand.New(rand.NewSource(196))
	seen := map[string]int{}
	for range 300 {
		p := &pair{t: t, quota: pick(r, 20, 28, 29, 45, 60, 100, 200, 500, 2000, 1<<16), limit: pick(r, 64, 64, 200)}
		p.open(-1)
		lists := map[int][]api.Record{}
		for range 40 {
			if r.Intn(20) == 0 {
				n := pick(r, r.Intn(3), r.Intn(16))
				p.d.Arm(n)
				p.w.d.Arm(n)
			}
			at := p.f.Place()
			said := p.take(drawMessage(t, r, lists, at))
			seen[fmt.Sprintf("%s, loading %v, newer %v", said, at.Loading, at.Epoch < p.f.Place().Epoch)]++
			for p.d.Down() {
				cut := slices.Repeat([]api.Cut{{Keep: r.Intn(40), Zero: r.Intn(20)}}, 150)
				files := p.d.Crash(r.Intn(12)-1, cut[:r.Intn(150)]...)
				p.open(pick(r, -1, -1, r.Intn(4)), files...)
			}
		}
	}
	for _, k := range []string{
		"true, loading false, newer false", "true, loading true, newer false", "true, loading false, newer true", "true, loading true, newer true",
		"false, loading false, newer false", "false, loading true, newer false",
		"false take 191, loading false, newer false", "false take 191, loading true, newer false",
		"false take 64, loading false, newer false", "false take 64, loading true, newer false",
		"false take 60, loading false, newer false", "false take 60, loading true, newer false",
		`false take store append "" -1 64, loading false, newer false`, `false take store append "" -1 60, loading false, newer false`, `false take store sync "" -1 60, loading false, newer false`,
		`false take store replace "" -1 64, loading true, newer false`, `false take store replace "" -1 64, loading false, newer true`, `false take store replace "" -1 64, loading true, newer true`,
		`false take store replace "" -1 60, loading true, newer false`, `false take store replace "" -1 60, loading false, newer true`,
	} {
		if seen[k] == 0 {
			t.Errorf("%s: not met among %v", k, seen)
		}
	}
}
