package archive_test

import (
	"bytes"
	"errors"
	"fmt"
	"math"
	"math/rand"
	"runtime"
	"slices"
	"sync"
	"testing"
	"time"

	"annals/api"
	"annals/archive"
	"annals/disk"
	"annals/store"
)

// room is a list with all its spare room.
func room[T any](list []T) []T { return list[:cap(list)] }

// spare is bytes with spare room behind them that is not zero.
func spare(b []byte) []byte { return slices.Concat(b, []byte("behind"))[:len(b)] }

// scribble writes into bytes, and behind their end.
func scribble(b []byte) {
	for i := range room(b) {
		room(b)[i] ^= 0x5a
	}
}

// scribbleRecs writes into records and their data, and behind their ends.
func scribbleRecs(recs []api.Record) {
	for i := range room(recs) {
		scribble(room(recs)[i].Data)
		room(recs)[i] = api.Record{V: -1, Kind: -1, Saga: -1}
	}
}

// rich is an archive whose records' data lie in one place, one over the other, with spare room behind all.
func rich() api.Archive {
	place := []byte("the data of all records")
	recs := make([]api.Record, 0, 20)
	for i := range 12 {
		kind := []int{api.KDone, api.KUndone, api.KFail}[i%3]
		recs = append(recs, api.Record{V: 3, Kind: kind, Saga: 1 + i%4, Data: place[i%5 : 8+i%7]})
	}
	room(recs)[12] = api.Record{V: 9, Data: place}
	return api.Archive{Top: 300, Recs: recs}
}

func tell(v any) string { return fmt.Sprintf("%+v", v) }

// Promise 17.11: what is handed in is not changed, nor the spare room behind it, and it is not kept.
func TestHandedIn(t *testing.T) {
	a := rich()
	was := tell(room(a.Recs))
	b := pack(t, a)
	if tell(room(a.Recs)) != was {
		t.Fatal("Pack writes into its records")
	}
	want := bytes.Clone(b)
	scribbleRecs(a.Recs)
	if !bytes.Equal(b, want) {
		t.Fatal("Pack's answer shares memory with its records")
	}

	in := spare(want)
	whole := bytes.Clone(room(in))
	read, e, _ := archive.Read(in)
	if e != api.OK || !bytes.Equal(room(in), whole) {
		t.Fatalf("Read writes into its bytes: %d", e)
	}
	told := tell(read)
	scribble(in)
	if tell(read) != told {
		t.Error("Read's answer shares memory with its bytes")
	}

	in = spare(want)
	d := newDisk(t, 1<<16)
	s, err := archive.Restore(d, usual, in)
	must(t, err)
	if !bytes.Equal(room(in), whole) {
		t.Error("Restore writes into its bytes")
	}
	was = view(d, s) + tell(listOf(t, s))
	scribble(in)
	if view(d, s)+tell(listOf(t, s)) != was {
		t.Error("Restore keeps its bytes")
	}

	in = spare(want)
	it, _ := archive.Cut(in, 50)
	if !bytes.Equal(room(in), whole) {
		t.Error("Cut writes into its bytes")
	}
	pieces := cutTwin(want, 50)
	for p := range it {
		if !bytes.Equal(p, pieces[0]) {
			t.Error("a piece is another one once the bytes were written into")
		}
		pieces = pieces[1:]
		scribble(in)
	}
	if len(pieces) != 0 {
		t.Errorf("%d pieces are missing", len(pieces))
	}
}

// Promise 17.11: neither the pieces nor their list are changed or kept by Join.
func TestHandedToJoin(t *testing.T) {
	whole := []byte("some bytes to be cut")
	list := make([][]byte, 0, 20)
	for _, p := range cutTwin(whole, 3) {
		list = append(list, spare(p))
	}
	room(list)[len(list)] = []byte("behind")
	slices.Reverse(list)
	look := func() string {
		out := fmt.Sprint(room(list))
		for _, p := range list {
			out += string(room(p))
		}
		return out
	}
	was := look()
	b, e := archive.Join(list...)
	if e != api.OK || look() != was {
		t.Fatalf("Join writes into its pieces: %d", e)
	}
	for i := range list {
		scribble(list[i])
		list[i] = nil
	}
	if !bytes.Equal(b, whole) {
		t.Error("Join's answer shares memory with a piece")
	}
	one := pieceOf(0, 0, 1)
	if b, _ := archive.Join(one); cap(b) > 0 {
		scribble(b)
		if !bytes.Equal(one, pieceOf(0, 0, 1)) {
			t.Error("an empty whole shares memory with its piece")
		}
	}
}

// Promise 17.11: whoever writes into an answer, behind its end too, changes nothing else.
func TestAnswersAreNew(t *testing.T) {
	b := pack(t, rich())
	want := bytes.Clone(b)
	scribble(pack(t, rich()))
	x, _, _ := archive.Read(b)
	y, _, _ := archive.Read(b)
	told := tell(y)
	scribbleRecs(x.Recs)
	if tell(y) != told || !bytes.Equal(b, want) {
		t.Error("writing into what was read changes another answer, or the bytes")
	}
	d := newDisk(t, 1<<16)
	s, err := archive.Restore(d, usual, b)
	must(t, err)
	was := view(d, s) + tell(listOf(t, s))
	back, err := archive.Backup(s)
	must(t, err)
	scribble(back)
	if view(d, s)+tell(listOf(t, s)) != was {
		t.Error("writing into a backup changes the store")
	}
	list := pieces(t, b, 20)
	all := bytes.Join(pieces(t, b, 20), nil)
	it, _ := archive.Cut(b, 20)
	for p := range it {
		scribble(p)
	}
	if again := bytes.Join(slices.Collect(it), nil); !bytes.Equal(again, all) || !bytes.Equal(bytes.Join(list, nil), all) || !bytes.Equal(b, want) {
		t.Error("writing into a piece changes others")
	}
	v, _ := archive.Join(list...)
	w, _ := archive.Join(list...)
	scribble(v)
	if !bytes.Equal(w, want) || !bytes.Equal(bytes.Join(list, nil), all) {
		t.Error("writing into a whole changes another, or a piece")
	}
}

// Promise 17.11: no two lists of one answer share memory.
func TestListsApart(t *testing.T) {
	b := pack(t, rich())
	datas := func() [][]byte {
		a, _, _ := archive.Read(b)
		var out [][]byte
		for _, r := range a.Recs {
			out = append(out, r.Data)
		}
		return out
	}
	for _, get := range []func() [][]byte{datas, func() [][]byte { return pieces(t, b, 20) }} {
		want := get()
		for n := range want {
			got := get()
			scribble(got[n])
			for k := range got {
				if k != n && !bytes.Equal(got[k], want[k]) {
					t.Errorf("writing into list %d changes list %d", n, k)
				}
			}
		}
	}
}

// Promise 17.11: a fault that is written into is not met again.
func TestFaultsAreNew(t *testing.T) {
	d := newDisk(t, 30)
	for range 3 {
		_, err := archive.Restore(d, usual, packed(0))
		if chain(t, err) != `restore store replace "" -1 64` {
			t.Fatal(err)
		}
		var f *archive.Fault
		var g *store.Fault
		errors.As(err, &f)
		errors.As(err, &g)
		*f, *g = archive.Fault{Why: "x", Err: api.ErrSum}, store.Fault{}
		_, err = archive.Backup(nil)
		if chain(t, err) != "backup 1" {
			t.Fatal(err)
		}
		errors.As(err, &f)
		*f = archive.Fault{}
	}
}

// Rule 8 of the whole: all goroutines have ended when Join answers, whatever it answers.
func TestNoneRunsOn(t *testing.T) {
	good := cutTwin(make([]byte, 5000), 10)
	broken := slices.Concat(slices.Repeat([][]byte{nil}, 300), good)
	before := runtime.NumGoroutine()
	for range 300 {
		joins(t, string(make([]byte, 5000)), good...)
		notJoinedShort(t, api.ErrPiece, broken)
		notJoinedShort(t, api.ErrGap, good[1:])
		notJoinedShort(t, api.ErrPieces, append(good[:len(good):len(good)], pieceOf(0, 0, 1)))
	}
	// A goroutine that has let go of its WaitGroup may still be counted for a moment.
	for range 100 {
		if runtime.NumGoroutine() <= before {
			return
		}
		time.Sleep(time.Millisecond)
	}
	t.Errorf("%d goroutines, not %d", runtime.NumGoroutine(), before)
}

func notJoinedShort(t *testing.T, e api.Errno, list [][]byte) {
	t.Helper()
	if b, got := archive.Join(list...); got != e || b != nil {
		t.Fatalf("%d bytes, %d, not %d", len(b), got, e)
	}
}

// Promise 17.11: no call panics or runs on, whatever it is given.
func TestAnythingIsTaken(t *testing.T) {
	r := rand.New(rand.NewSource(1711))
	number := func() int {
		return pick(r, math.MinInt, -1, 0, 1, 2, 3, 7, 64, 65536, 1<<40, math.MaxInt, int(r.Uint64()))
	}
	odd := func() []byte {
		b := pick(r, packed(r.Intn(3), end(1, 1)), pieceOf(r.Uint32(), uint64(number()), uint64(number())), framed(drawBytes(r, 1+r.Intn(9))...), drawBytes(r, r.Intn(30)), nil)
		for range r.Intn(3) {
			b = slices.Concat(b[:r.Intn(len(b)+1)], drawBytes(r, r.Intn(3)), b[r.Intn(len(b)+1):])
		}
		return b
	}
	for range 20000 {
		rec := api.Record{V: number(), Kind: number(), Saga: number(), Step: number(), Try: number(), At: number(), Name: string(odd()), Data: odd()}
		if b, e := archive.Pack(api.Archive{Top: number(), Recs: []api.Record{rec}}); e != api.OK && b != nil {
			t.Fatalf("% x, %d", b, e)
		}
		if a, e, at := archive.Read(odd()); e != api.OK && (a.Top != 0 || a.Recs != nil || at < 0) {
			t.Fatalf("%+v, %d, %d", a, e, at)
		}
		if b, e := archive.Join(odd(), odd(), odd()); e == api.OK || b != nil {
			t.Fatalf("% x, %d", b, e)
		}
		it, e := archive.Cut(odd(), number())
		if n := len(slices.Collect(it)); (e == api.OK) != (n > 0) {
			t.Fatalf("%d pieces, %d", n, e)
		}
		d := newDisk(t, 50+r.Intn(100), api.File{Name: pick(r, "MANIFEST", "s1", "x"), Data: drawBytes(r, r.Intn(40))})
		d.Arm(number())
		if s, err := archive.Restore(d, api.Options{V: number(), Limit: number()}, odd()); (s == nil) != (err != nil) {
			t.Fatalf("%v, %v", s, err)
		}
	}
}

// Promise 17.4, and rule 3 of the whole: whoever else changes the disk meanwhile breaks the promises, but nothing panics, and what Backup answers is a fault of this layer or nothing.
func TestMeddling(t *testing.T) {
	r := rand.New(rand.NewSource(174))
	seen := map[api.Errno]int{}
	for seed := range int64(1000) {
		d, s := drawn(t, seed, pick(r, 100, 300, 4000))
		for range 6 {
			meddle(r, d)
			b, err := archive.Backup(s)
			if chain(t, err); err != nil && b != nil {
				t.Fatalf("% x, %v", b, err)
			}
			var e api.Errno
			errors.As(err, &e)
			seen[e]++
			_, err = archive.Restore(d, usual, packed(0, end(1, 1)))
			chain(t, err)
		}
	}
	if seen[api.OK] == 0 || seen[api.ErrLost] == 0 || seen[api.ErrCorrupt] == 0 || seen[api.ErrDown] == 0 {
		t.Errorf("%v", seen)
	}
}

// meddle changes a disk behind a store's back.
func meddle(r *rand.Rand, d *disk.Disk) {
	name, to := "MANIFEST", "s3"
	if l := d.List(); len(l) > 0 {
		name, to = pick(r, l...), pick(r, append(l, "s2", "s3", "MANIFEST.tmp")...)
	}
	switch r.Intn(7) {
	case 0:
		d.Remove(name)
	case 1:
		d.Rename(name, to)
	case 2:
		d.Create(to)
	case 3:
		d.Append(name, []byte("rubbish"))
	case 4:
		b, _ := d.Read(name)
		d.Truncate(name, r.Intn(len(b)+1))
	case 5:
		d.Append(name, make([]byte, d.Free()))
	case 6:
		d.Arm(r.Intn(30))
	}
}

// Promise 17.11: calls side by side answer as calls one behind the other; what Cut answers may be ranged over side by side.
func TestSideBySide(t *testing.T) {
	b := pack(t, rich())
	want, _, _ := archive.Read(b)
	list := cutTwin(b, 7)
	it, _ := archive.Cut(b, 7)
	var group sync.WaitGroup
	for i := range 8 {
		d := newDisk(t, 1<<16)
		s, err := archive.Restore(d, usual, b)
		must(t, err)
		group.Go(func() {
			for range 50 {
				if a, e, _ := archive.Read(b); e != api.OK || !sameArchive(a, want) {
					t.Errorf("worker %d: Read: %+v, %d", i, a, e)
				}
				if got := slices.Collect(it); !slices.EqualFunc(got, list, slices.Equal) {
					t.Errorf("worker %d: Cut: %d pieces", i, len(got))
				}
				if got, e := archive.Join(list...); e != api.OK || !bytes.Equal(got, b) {
					t.Errorf("worker %d: Join: %d", i, e)
				}
				if got, err := archive.Backup(s); err != nil || !bytes.Equal(got, b) {
					t.Errorf("worker %d: Backup: %v", i, err)
				}
			}
		})
	}
	group.Wait()
}
