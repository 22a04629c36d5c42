package ship_test

import (
	"fmt"
	"math"
	"slices"
	"testing"

	"annals/api"
	"annals/disk"
	"annals/ship"
	"annals/store"
)

// Promises 19.1, 19.3: what store.Open refuses is told as it came.
func TestOpenRefusals(t *testing.T) {
	down := newDisk(t, 4096)
	goDown(down)
	clear := func(quota int, files ...api.File) *disk.Disk { return newDisk(t, quota, files...) }
	for i, c := range []struct {
		d     *disk.Disk
		limit int
		want  string
	}{
		{nil, 64, `open store open "" -1 1`}, {nil, 0, `open store open "" -1 1`}, {down, 64, `open store open "" -1 60`}, {down, 0, `open store open "" -1 60`},
		{clear(4096), 63, `open store open "" -1 93`}, {clear(4096), 65537, `open store open "" -1 93`}, {clear(0), math.MinInt, `open store open "" -1 93`},
		{clear(19), 64, `open store open "" -1 64`}, {clear(4096, api.File{Name: "MANIFEST", Data: []byte("x")}), 64, `open store open "MANIFEST" -1 10`},
		// What is wrong with the store comes ahead of what is wrong with FOLLOW.
		{clear(0, api.File{Name: "FOLLOW"}, api.File{Name: "FOLLOW.tmp"}), 64, `open store open "" -1 64`},
		{clear(20), 64, ""}, {clear(4096), 65536, ""},
	} {
		was := ""
		if c.d != nil {
			was = sight(c.d)
		}
		f, err := ship.Open(c.d, c.limit)
		if chain(t, err) != c.want || (f == nil) != (c.want != "") {
			t.Errorf("row %d: %v, not %q", i, err, c.want)
		}
		if c.want != "" && c.d != nil && sight(c.d) != was {
			t.Errorf("row %d: the disk is changed", i)
		}
	}
}

// Promise 19.3: a new follower has no file FOLLOW, and its store is a new one of the version 3 with that limit.
func TestOpenNew(t *testing.T) {
	d, f := follower(t, 4096)
	twin := newDisk(t, 4096)
	s, err := store.Open(twin, api.Options{V: 3, Limit: 64})
	must(t, err)
	if view(d, f.Store()) != view(twin, s) || place(f) != "0 0 false" {
		t.Errorf("%s, %s", place(f), raw(d.Files()))
	}
	must(t, f.Store().Append(ends(3, 1, 5)...))
	must(t, f.Store().Append(end(3, 1)))
	if f.Store().Stat().Segs != 2 {
		t.Error("the limit is another one")
	}
}

// Promise 19.3: a store that is there already is kept, and raised to the version 3; its records are none that were followed.
func TestOpenOldStore(t *testing.T) {
	for v := 1; v <= 3; v++ {
		d, s := leader(t, v, ends(1, 1, 5)...)
		was := sight(d)
		twin := newDisk(t, 1<<20, d.Files()...)
		u, err := store.Open(twin, api.Options{V: 1, Limit: 64})
		must(t, err)
		must(t, u.Raise(3))
		f, err := ship.Open(d, 64)
		must(t, err)
		if f.Store().Stat().V != 3 || raw(d.Files()) != raw(twin.Files()) || !sameRecs(listOf(t, f.Store()), listOf(t, u)) || place(f) != "0 0 false" || (v == 3) != (sight(d) == was) {
			t.Errorf("version %d: %+v, %s", v, f.Store().Stat(), place(f))
		}
		// Such a follower takes an answer as a new one does.
		if ok, err := f.Take(answered(1, 0, 1, 0, end(3, 9))); !ok || err != nil || place(f) != "1 1 false" || !sameRecs(listOf(t, f.Store()), ends(3, 9, 9)) || s == nil {
			t.Errorf("version %d: %v, %v", v, ok, err)
		}
	}
	// There is room for the store, but none for another segment.
	d := newDisk(t, 22)
	_, err := store.Open(d, api.Options{V: 1, Limit: 64})
	must(t, err)
	was := sight(d)
	if f, err := ship.Open(d, 64); chain(t, err) != `open store raise "" -1 64` || f != nil || sight(d) != was {
		t.Errorf("%v", err)
	}
}

// Promises 19.1, 19.3: the file FOLLOW is read strictly; with records in the store and without.
func TestNoteIsStrict(t *testing.T) {
	for _, n := range []int{0, 3} {
		d, s := leader(t, 3, ends(3, 1, n)...)
		open := func(b []byte) string {
			f, err := ship.Open(newDisk(t, 1<<20, append(d.Files(), api.File{Name: "FOLLOW", Data: b})...), 64)
			if err != nil {
				if f != nil {
					t.Errorf("% x: a follower with an error", b)
				}
				return chain(t, err)
			}
			ask, err := f.Ask()
			p := f.Place()
			if err != nil || string(ask) != string(asked(uint64(p.Epoch), uint64(p.Have))) || !sameRecs(listOf(t, f.Store()), listOf(t, s)) {
				t.Errorf("% x: % x, %v", b, ask, err)
			}
			return place(f)
		}
		for _, epoch := range []int{1, 2, 127, 128, 300, maxNumber - 1, maxNumber} {
			if got, want := open(noted(epoch, false)), fmt.Sprint(epoch, n, false); got != want {
				t.Errorf("%s, not %s", got, want)
			}
			if got, want := open(noted(epoch, true)), fmt.Sprint(epoch, 0, true); got != want {
				t.Errorf("%s, not %s", got, want)
			}
			for _, b := range slices.Concat(broken(noted(epoch, false)), broken(noted(epoch, true))) {
				if string(b) == string(noted(epoch, true)) || string(b) == string(noted(epoch, false)) {
					continue
				}
				if got := open(b); got != "open 193" {
					t.Errorf("% x: %s", b, got)
				}
			}
		}
		for _, body := range []string{"46", "46 00", "46 80", "46 81 00", "46 01 00", "46 01 4c", "46 81 80 80 80 80 20", "46 ff ff ff ff ff ff ff ff 7f", "46 ff ff ff ff ff ff ff ff ff 01", "51 01", "41 01", "66 01", "01", "4c"} {
			for _, behind := range []string{"", "L"} {
				if got := open(append(framed(unhex(body)...), behind...)); got != "open 193" {
					t.Errorf("%s: %s", body, got)
				}
			}
		}
		for _, b := range []string{"", "L", "l", "F", "LL"} {
			if got := open([]byte(b)); got != "open 193" {
				t.Errorf("%q: %s", b, got)
			}
			if got := open(append(noted(5, true), b...)); b != "" && got != "open 193" {
				t.Errorf("%q behind: %s", b, got)
			}
		}
		for _, b := range []string{"l", "M", "\x00", "L\x00", "\x00L"} {
			if got := open(append(noted(5, false), b...)); got != "open 193" {
				t.Errorf("%q behind: %s", b, got)
			}
		}
	}
}

// Promise 19.3: a file FOLLOW.tmp goes, whatever it holds, and its going lasts; where FOLLOW is none, that stays done. Where there is no FOLLOW.tmp nothing is changed but by store.Open.
func TestOpenClears(t *testing.T) {
	d, _ := leader(t, 3, end(3, 1))
	for _, c := range []struct {
		note []byte
		want string
	}{{noted(7, false), "7 1 false"}, {noted(7, true), "7 0 true"}, {[]byte("x"), "open 193"}, {nil, "open 193"}} {
		for _, fresh := range []string{"", "x", string(noted(9, true))} {
			files := append(d.Files(), api.File{Name: "FOLLOW", Data: c.note}, api.File{Name: "FOLLOW.tmp", Data: []byte(fresh)}, api.File{Name: "FOLLOW.tmp2"}, api.File{Name: "other"})
			g := newDisk(t, 4096, files...)
			f, err := ship.Open(g, 64)
			got := chain(t, err)
			if err == nil {
				got = place(f)
			}
			names := []string{"FOLLOW", "FOLLOW.tmp2", "MANIFEST", "other", "s1"}
			if got != c.want || !slices.Equal(g.List(), names) || len(g.Crash(0)) != len(names) || g.Free() != 4096-total(g.Files()) {
				t.Errorf("%q: %s, %v, %d", fresh, got, g.List(), len(g.Crash(0)))
			}
		}
	}
	// Three changing calls: the store's sync of its active segment, the Remove, the SyncDir; without a FOLLOW.tmp the first alone.
	for n := range 4 {
		with := newDisk(t, 4096, append(d.Files(), api.File{Name: "FOLLOW.tmp"})...)
		with.Arm(n)
		_, err := ship.Open(with, 64)
		if want := []string{`open store open "" -1 60`, "open 60", "open 60", ""}[n]; chain(t, err) != want {
			t.Errorf("down at %d: %v, not %q", n, err, want)
		}
		without := newDisk(t, 4096, d.Files()...)
		without.Arm(n)
		_, err = ship.Open(without, 64)
		if want := []string{`open store open "" -1 60`, "", "", ""}[n]; chain(t, err) != want {
			t.Errorf("down at %d: %v, not %q", n, err, want)
		}
	}
}

func total(files []api.File) int {
	n := 0
	for _, f := range files {
		n += len(f.Data)
	}
	return n
}

// Promises 19.4, 19.5: an ask tells the place; Ask and Take of a follower whose disk is down tell just that, and Place does not ask the disk.
func TestAskAndPlace(t *testing.T) {
	d, f := follower(t, 1<<16)
	list := ends(3, 1, 40)
	for _, c := range []struct {
		msg  []byte
		want api.Place
	}{
		{nil, api.Place{}}, {part(5, 0, 0, list), api.Place{Epoch: 5, Have: 16, Loading: true}}, {part(5, 16, 0, list), api.Place{Epoch: 5, Have: 32, Loading: true}}, {part(5, 32, 0, list), api.Place{Epoch: 5, Have: 40}},
		{part(5, 40, 0, ends(3, 1, 41)), api.Place{Epoch: 5, Have: 41}}, {part(maxNumber, 0, 0, nil), api.Place{Epoch: maxNumber}},
	} {
		if c.msg != nil {
			if ok, err := f.Take(c.msg); !ok || err != nil {
				t.Fatalf("%v, %v", ok, err)
			}
		}
		ask, err := f.Ask()
		if err != nil || string(ask) != string(asked(uint64(c.want.Epoch), uint64(c.want.Have))) || f.Place() != c.want {
			t.Errorf("% x, %v, %s", ask, err, place(f))
		}
	}
	goDown(d)
	ask, err := f.Ask()
	if chain(t, err) != "ask 60" || ask != nil {
		t.Errorf("% x, %v", ask, err)
	}
	for _, msg := range [][]byte{nil, part(1, 0, 0, list), part(maxNumber, 0, 0, list)} {
		if ok, err := f.Take(msg); chain(t, err) != "take 60" || ok {
			t.Errorf("%v, %v", ok, err)
		}
	}
	f.Place()
	if f.Store() == nil {
		t.Error("no store")
	}
}
