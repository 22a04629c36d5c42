package manifest_test

import (
	"bytes"
	"math"
	"math/rand"
	"slices"
	"strings"
	"sync"
	"testing"

	"annals/api"
	"annals/disk"
	"annals/manifest"
)

// room is a list with all its spare room.
func room[T any](list []T) []T { return list[:cap(list)] }

// spare is a list with spare room behind it that is not zero.
func spare[T any](list []T, behind ...T) []T {
	whole := slices.Concat(list, behind)
	return whole[:len(list):len(whole)]
}

// scribble writes into a list, and behind its end.
func scribble[T any](list []T, v T) {
	for i := range room(list) {
		room(list)[i] = v
	}
}

// Promise 8.12: what is answered is new at each call, spare room too, and the disk's files do not change with it.
func TestAnswersAreNew(t *testing.T) {
	b := slices.Clone(twoBytes)
	d := loaded(t, 1000, file("MANIFEST", string(b)))
	for range 3 {
		w, e := manifest.Encode(two())
		m, e2 := manifest.Decode(b)
		m2, e3 := manifest.Load(d)
		if e != api.OK || e2 != api.OK || e3 != api.OK || !bytes.Equal(w, twoBytes) || !same(m, two()) || !same(m2, two()) || !bytes.Equal(b, twoBytes) {
			t.Fatalf("% x, %d, %+v, %d, %+v, %d", w, e, m, e2, m2, e3)
		}
		scribble(w, 0x5a)
		scribble(m.Segs, api.Seg{Num: 9})
		if !same(m2, two()) {
			t.Fatal("two answers share memory")
		}
		scribble(m2.Segs, api.Seg{Num: 9})
	}
	if tell(d.Files()) != tell([]api.File{file("MANIFEST", string(twoBytes))}) {
		t.Errorf("the disk became %s", tell(d.Files()))
	}
}

// Promise 8.12: the names that Sweep tells are a list of their own.
func TestSweptAreNew(t *testing.T) {
	files := []api.File{file("s3", "3"), file("s4", "4"), file("s5", "5"), file("x", "x")}
	d, d2 := loaded(t, 100, files...), loaded(t, 100, files...)
	l, _ := manifest.Sweep(d, two())
	l2, _ := manifest.Sweep(d2, two())
	scribble(l, "x")
	if !slices.Equal(l2, []string{"s3", "s4", "s5"}) || tell(d.Files()) != `x="x"` || tell(d2.Files()) != `x="x"` {
		t.Errorf("%q, %s, %s", l2, tell(d.Files()), tell(d2.Files()))
	}
}

// Promise 8.12: of what is handed in nothing is changed, nor the spare room behind it, and nothing is kept.
func TestArgumentsStay(t *testing.T) {
	m := many(20)
	want := many(20)
	m.Segs = spare(m.Segs, api.Seg{Num: 21, Size: 7, Count: 7}, api.Seg{Num: -1})
	was := slices.Clone(room(m.Segs))
	d := loaded(t, 1000, file("s3", "3"), file("s50", "50"))
	b, e := manifest.Encode(m)
	e2 := manifest.Swap(d, m)
	l, e3 := manifest.Sweep(d, m)
	if e4 := manifest.Check(m); e != api.OK || e2 != api.OK || e3 != api.OK || e4 != api.OK || len(l) != 1 {
		t.Fatalf("%d, %d, %d, %d, %q", e, e2, e3, e4, l)
	}
	if !slices.Equal(room(m.Segs), was) {
		t.Fatalf("the segments became %+v", room(m.Segs))
	}
	scribble(m.Segs, api.Seg{Num: 5, Size: 5, Count: 5})
	if got, e := manifest.Load(d); e != api.OK || !same(got, want) {
		t.Errorf("the disk's manifest became %+v, %d", got, e)
	}
	if got, e := manifest.Decode(b); e != api.OK || !same(got, want) {
		t.Errorf("the bytes became those of %+v, %d", got, e)
	}
}

// Promise 8.12: Decode reads nothing of the room behind the bytes, changes nothing, and keeps nothing.
func TestBytesStay(t *testing.T) {
	for cut := range len(twoBytes) + 1 {
		b := spare(twoBytes[:cut], append(slices.Clone(twoBytes[cut:]), "more"...)...)
		was := slices.Clone(room(b))
		m, e := manifest.Decode(b)
		if !bytes.Equal(room(b), was) {
			t.Fatalf("cut at %d: what was handed in became % x", cut, room(b))
		}
		scribble(b, 0x5a)
		tight, e2 := manifest.Decode(slices.Clip(slices.Clone(twoBytes[:cut])))
		if e != e2 || !same(m, tight) || (e == api.OK) != (cut == len(twoBytes)) {
			t.Errorf("cut at %d: %+v, %d with room behind, %+v, %d without", cut, m, e, tight, e2)
		}
	}
}

// Promise 8.12: nothing but the disk's files is kept: what was said of one disk is not known of another, nor of one that was loaded anew.
func TestNothingIsKept(t *testing.T) {
	d, d2 := newDisk(t, 100), newDisk(t, 100)
	if e := manifest.Swap(d, two()); e != api.OK {
		t.Fatal(e)
	}
	if _, e := manifest.Load(d2); e != api.ErrNone {
		t.Errorf("the other disk: %d", e)
	}
	d.Remove("MANIFEST")
	if _, e := manifest.Load(d); e != api.ErrNone {
		t.Errorf("the manifest was removed: %d", e)
	}
	d.Create("s2")
	if l, e := manifest.Sweep(d, one()); e != api.OK || !slices.Equal(l, []string{"s2"}) {
		t.Errorf("%q, %d", l, e)
	}
}

// Promise 8.12: no call panics or runs on, whatever it is given; beside an error the answer is zero.
func TestAnythingIsTaken(t *testing.T) {
	r := rand.New(rand.NewSource(812))
	num := func() int { return pick(r, append(edges, r.Intn(10), int(r.Uint64()))...) }
	for range 5000 {
		m := api.Manifest{Gen: num(), V: num(), Next: num(), Top: num()}
		for range r.Intn(5) {
			m.Segs = append(m.Segs, api.Seg{Num: num(), Size: num(), Count: num()})
		}
		e := manifest.Check(m)
		if want := slowCheck(m); e != want {
			t.Fatalf("Check(%+v) = %d, want %d", m, e, want)
		}
		d := loaded(t, r.Intn(60)+8, file("MANIFEST.tmp", "tmp"), file("s4", "4"))
		if l, e2 := manifest.Sweep(d, m); e2 != e || e2 != api.OK && len(l) != 0 {
			t.Fatalf("Sweep(%+v) = %q, %d", m, l, e2)
		}
		if e2 := manifest.Swap(d, m); e2 != e && e2 != api.ErrFull {
			t.Fatalf("Swap(%+v) = %d", m, e2)
		}
		b := make([]byte, r.Intn(40))
		r.Read(b)
		agree(t, b)
		agree(t, frame(append([]byte("M"), b...)...))
		if n, is := manifest.Num(string(b)); is != (n != 0) {
			t.Fatalf("Num(%q) = %d, %t", b, n, is)
		}
		if name := manifest.Name(m.Next); (name == "") != (m.Next < 1 || m.Next > maxNumber) {
			t.Fatalf("Name(%d) = %q", m.Next, name)
		}
	}
	for _, name := range []string{"s" + strings.Repeat("9", 1<<22), "s" + strings.Repeat("0", 1<<22), strings.Repeat("s", 1<<22), "s" + strings.Repeat("\xff", 1<<20)} {
		if n, is := manifest.Num(name); n != 0 || is {
			t.Errorf("Num of %d bytes = %d, %t", len(name), n, is)
		}
	}
	great := api.Manifest{Gen: 1, V: 1, Next: math.MaxInt, Segs: make([]api.Seg, 1<<20)}
	if b, e := manifest.Encode(great); e != api.ErrNext || len(b) != 0 {
		t.Errorf("%d bytes, %d", len(b), e)
	}
	zero := new(disk.Disk)
	if e := manifest.Swap(zero, one()); e != api.ErrFull {
		t.Errorf("a disk without room: %d", e)
	}
}

// Promise 8.12: calls side by side, each on a disk of its own, answer as calls one behind the other.
func TestSideBySide(t *testing.T) {
	var group sync.WaitGroup
	shared := manifests()
	for i := range 8 {
		group.Go(func() {
			for round := range 50 {
				m := shared[(i+round)%len(shared)]
				d, _ := disk.Load(1000, []api.File{file("s77", "x"), file("y", "y")})
				l, e := manifest.Sweep(d, m)
				e2 := manifest.Swap(d, m)
				got, e3 := manifest.Load(d)
				if e != api.OK || e2 != api.OK || e3 != api.OK || !slices.Equal(l, []string{"s77"}) || !same(got, m) || len(d.Files()) != 2 {
					t.Errorf("worker %d: %q, %d, %d, %+v, %d", i, l, e, e2, got, e3)
				}
				scribble(got.Segs, api.Seg{})
			}
		})
	}
	group.Wait()
}
