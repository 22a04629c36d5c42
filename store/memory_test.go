package store_test

import (
	"bytes"
	"errors"
	"fmt"
	"math"
	"math/rand"
	"slices"
	"strings"
	"sync"
	"testing"

	"annals/api"
	"annals/disk"
	"annals/record"
	"annals/store"
)

// room is a list with all its spare room.
func room[T any](list []T) []T { return list[:cap(list)] }

// spare is a list with spare room behind it that is not zero.
func spare[T any](list []T, behind ...T) []T {
	whole := slices.Concat(list, behind)
	return whole[:len(list):len(whole)]
}

// scribble writes into a list, and behind its end.
func scribble[T any](list []T, v T) {
	for i := range room(list) {
		room(list)[i] = v
	}
}

func cloneAll(recs []api.Record) []api.Record {
	var out []api.Record
	for _, r := range recs {
		out = append(out, record.Clone(r))
	}
	return out
}

// withData is records all of which have data.
func withData(n int) []api.Record {
	var out []api.Record
	for i := range n {
		out = append(out, api.Record{V: 2, Kind: api.KDone, Saga: 1 + i%3, Step: i % 32, Data: bytes.Repeat([]byte{byte('a' + i)}, 1+i*5)})
	}
	return out
}

// filled is a store with closed segments and records in the active one, all with data.
func filled(t *testing.T) (*disk.Disk, *store.Store, []api.Record) {
	t.Helper()
	d, s := fresh(t, 1<<16, api.Options{V: 2, Limit: 100})
	recs := withData(14)
	for i := 0; i < len(recs); i += 2 {
		if err := s.Append(recs[i : i+2]...); err != nil {
			t.Fatal(err)
		}
	}
	if n := s.Stat(); n.Segs < 3 || n.Pending == 0 {
		t.Fatalf("%+v", n)
	}
	return d, s, recs
}

// Promise 9.12: what is answered is new at each call, spare room too; whoever writes into it changes neither the store nor another answer.
func TestAnswersAreNew(t *testing.T) {
	d, s, recs := filled(t)
	was, stat, segs := sight(d), s.Stat(), fmt.Sprint(s.Segments())
	for saga := range 3 {
		l, err := s.Records()
		l2, err2 := s.Records()
		found, err3 := s.Lookup(1 + saga)
		found2, err4 := s.Lookup(1 + saga)
		b, err5 := s.Blobs()
		b2, err6 := s.Blobs()
		if err := errors.Join(err, err2, err3, err4, err5, err6); err != nil {
			t.Fatal(err)
		}
		text, want := fmt.Sprintf("%q", b2), cloneAll(found2)
		for _, list := range [][]api.Record{l, found} {
			for _, r := range list {
				scribble(r.Data, 0x5a)
			}
			scribble(list, api.Record{V: 9})
		}
		for _, x := range b {
			scribble(x, 0x5a)
		}
		scribble(b, nil)
		scribble(s.Segments(), api.Seg{Num: 99, Size: 99, Count: 99})
		if !sameRecs(l2, recs) || !sameRecs(found2, want) || fmt.Sprintf("%q", b2) != text {
			t.Fatal("two answers share memory")
		}
	}
	if sight(d) != was || s.Stat() != stat || fmt.Sprint(s.Segments()) != segs {
		t.Error("writing into an answer changed the store")
	}
	if l, err := s.Records(); err != nil || !sameRecs(l, recs) {
		t.Errorf("the records became %v, %v", l, err)
	}
}

// Promise 9.12: no two lists of one answer share memory, spare room too.
func TestListsApart(t *testing.T) {
	_, s, recs := filled(t)
	for i := range recs {
		l, _ := s.Records()
		scribble(l[i].Data, 0x5a)
		for k := range l {
			if k != i && !record.Same(l[k], recs[k]) {
				t.Fatalf("Records: writing into the data of record %d changes that of %d", i, k)
			}
		}
	}
	first, _ := s.Lookup(2)
	for i := range first {
		l, _ := s.Lookup(2)
		scribble(l[i].Data, 0x5a)
		for k := range l {
			if k != i && !record.Same(l[k], first[k]) {
				t.Fatalf("Lookup: writing into the data of record %d changes that of %d", i, k)
			}
		}
	}
	blobs, _ := s.Blobs()
	for i := range blobs {
		b, _ := s.Blobs()
		scribble(b[i], 0x5a)
		for k := range b {
			if k != i && !bytes.Equal(b[k], blobs[k]) {
				t.Fatalf("Blobs: writing into blob %d changes blob %d", i, k)
			}
		}
	}
}

// Promise 9.12: of the records that are handed in nothing is changed, nor the spare room behind them and behind their data, and nothing is kept.
func TestArgumentsStay(t *testing.T) {
	calls := map[string]func(s *store.Store, recs []api.Record) error{
		"Append":  func(s *store.Store, recs []api.Record) error { return s.Append(recs...) },
		"Replace": func(s *store.Store, recs []api.Record) error { return s.Replace(3, 0, recs...) },
		"Replace by a refused one": func(s *store.Store, recs []api.Record) error {
			if err := s.Replace(2, 0, append(slices.Clone(recs), end(3, 1))...); err == nil {
				return errors.New("not refused")
			}
			return s.Append(recs...)
		},
	}
	for name, call := range calls {
		for _, limit := range []int{64, 65536} {
			_, s := fresh(t, 1<<16, api.Options{V: 2, Limit: limit})
			recs := spare(withData(9), api.Record{V: 9, Kind: 9}, api.Record{V: 8})
			for i := range recs {
				recs[i].Data = spare(recs[i].Data, []byte("spare room")...)
			}
			was := cloneAll(room(recs))
			if err := call(s, recs); err != nil {
				t.Fatalf("%s: %v", name, err)
			}
			if !sameRecs(room(recs), was) {
				t.Fatalf("%s: the records became %v", name, room(recs))
			}
			for i, r := range recs {
				if string(room(r.Data)) != string(was[i].Data)+"spare room" {
					t.Fatalf("%s: the room behind the data of record %d became %q", name, i, room(r.Data))
				}
				scribble(r.Data, 0x5a)
			}
			scribble(recs, api.Record{})
			v := s.Stat().V
			l, err := s.Records()
			if err != nil || !sameRecs(l, lifted(v, was[:9])) {
				t.Errorf("%s: Records changes with what was handed in: %v, %v", name, l, err)
			}
			found, err := s.Lookup(3)
			if err != nil || len(found) != 3 || !sameRecs(found, lifted(v, []api.Record{was[2], was[5], was[8]})) {
				t.Errorf("%s: Lookup changes with what was handed in: %v, %v", name, found, err)
			}
		}
	}
}

// Promise 9.12: a fault that is written into is not met again.
func TestFaultsAreNew(t *testing.T) {
	_, s := fresh(t, 4096, usual)
	for range 3 {
		for _, err := range []error{s.Append(end(2, 1)), s.Raise(9), s.Replace(1, -1)} {
			var f *store.Fault
			if !errors.As(err, &f) || f.Op == "x" {
				t.Fatalf("%v", err)
			}
			*f = store.Fault{Op: "x", Name: "x", At: 7, Err: api.ErrSum}
		}
	}
	if got := text(s.Append(end(2, 1))); got != "append #0: error 90" {
		t.Error(got)
	}
}

// Promise 9.12: two stores have nothing in common, and nothing but the disk is kept for the next one.
func TestNothingIsShared(t *testing.T) {
	d, s := fresh(t, 4096, usual)
	_, s2 := fresh(t, 4096, usual)
	s.Append(ends(1, 1, 2)...)
	s2.Append(ends(1, 3)...)
	s.Rotate()
	if l, err := s2.Records(); err != nil || !sameRecs(l, ends(1, 3)) || numbers(s2) != "1 1 2 0 1 1 1 16 16" {
		t.Errorf("%v, %v, %s", l, err, numbers(s2))
	}
	for _, f := range d.Files() {
		d.Remove(f.Name)
	}
	d.SyncDir()
	if u := opened(t, d, api.Options{V: 3, Limit: 64}); numbers(u) != "1 3 2 0 1 0 0 5 5" {
		t.Errorf("%s", numbers(u))
	}
}

// meddle changes a disk behind a store's back.
func meddle(r *rand.Rand, d *disk.Disk) {
	name, to := "MANIFEST", "s3"
	if l := d.List(); len(l) > 0 {
		name, to = pick(r, l...), pick(r, append(l, "s2", "s3", "MANIFEST.tmp")...)
	}
	switch r.Intn(9) {
	case 0:
		d.Remove(name)
	case 1:
		d.Rename(name, to)
	case 2:
		d.Create(to)
	case 3:
		d.Append(name, []byte("rubbish"))
	case 4:
		b, _ := d.Read(name)
		d.Truncate(name, r.Intn(len(b)+1))
	case 5:
		d.SyncDir()
	case 6:
		d.Append(name, make([]byte, d.Free()))
	case 7:
		store.Open(d, api.Options{V: 1 + r.Intn(3), Limit: 64})
	case 8:
		d.Arm(r.Intn(40))
	}
}

// Promise 9.12, and rule 3 of the whole: whoever else changes the disk meanwhile breaks the promises, but nothing panics, and what is answered is a fault or nothing.
func TestMeddling(t *testing.T) {
	r := rand.New(rand.NewSource(912))
	num := func() int { return pick(r, math.MinInt, -1, 0, 1, 2, 3, 4, math.MaxInt, r.Intn(9)) }
	told := map[api.Errno]int{}
	for range 2500 {
		d, s := fresh(t, pick(r, 60, 200, 2000), api.Options{V: 1 + r.Intn(3), Limit: 64})
		for range 15 {
			var err error
			switch r.Intn(12) {
			case 0, 1, 2:
				err = s.Append(drawRecs(r, s.Stat().V, r.Intn(5))...)
			case 3:
				err = s.Sync()
			case 4:
				err = s.Rotate()
			case 5:
				err = s.Raise(num())
			case 6:
				err = s.Replace(num(), num(), drawRecs(r, s.Stat().V, r.Intn(9))...)
			case 7:
				_, err = s.Records()
			case 8:
				_, err = s.Lookup(num())
			case 9:
				_, err = s.Blobs()
			default:
				meddle(r, d)
			}
			if fields(t, err); err != nil {
				var e api.Errno
				errors.As(err, &e)
				told[e]++
				var f *store.Fault
				if errors.As(err, &f); f.Name != "" || f.At != -1 {
					t.Fatalf("%v", err)
				}
			}
			if n := s.Stat(); n.Segs != len(s.Segments()) {
				t.Fatalf("%+v, %v", n, s.Segments())
			}
		}
	}
	if told[api.ErrLost] == 0 || told[api.ErrCorrupt] == 0 || told[api.ErrDown] == 0 {
		t.Errorf("%v", told)
	}
}

// A segment that somebody else took away or wrote over is told, not passed over.
func TestMeddledSegments(t *testing.T) {
	for i := range 3 {
		d, s := fresh(t, 4096, usual)
		if err := errors.Join(s.Append(ends(1, 1, 2)...), s.Rotate(), s.Append(ends(1, 1, 2)...), s.Rotate(), s.Append(ends(1, 1, 2)...)); err != nil {
			t.Fatal(err)
		}
		name := nameOf(1 + i)
		ask := func(e api.Errno) {
			t.Helper()
			l, err := s.Records()
			found, err2 := s.Lookup(1)
			b, err3 := s.Blobs()
			if len(l) != 0 || !errors.Is(err, e) || i < 2 && (len(found) != 0 || !errors.Is(err2, e)) || e == api.ErrLost && (len(b) != 0 || !errors.Is(err3, e)) {
				t.Errorf("%s: %v, %v, %v, %v, %v", name, l, err, found, err2, err3)
			}
			if err := s.Rotate(); i == 2 && err == nil {
				t.Errorf("%s is closed", name)
			}
		}
		d.Truncate(name, 3)
		ask(api.ErrCorrupt)
		d.Remove(name)
		ask(api.ErrLost)
	}
}

// Promise 9.12: no call panics or runs on, whatever it is given.
func TestAnythingIsTaken(t *testing.T) {
	r := rand.New(rand.NewSource(99))
	num := func() int {
		return pick(r, math.MinInt, -1, 0, 1, 2, 3, 4, 7, 31, 32, 1000, 64, 65536, math.MaxInt, int(r.Uint64()))
	}
	rec := func() api.Record {
		x := drawRec(r, 3)
		switch r.Intn(8) {
		case 0:
			x.V = num()
		case 1:
			x.Kind = num()
		case 2:
			x.Saga = num()
		case 3:
			x.Step, x.Try = num(), num()
		case 4:
			x.Name = pick(r, "", "\xff", strings.Repeat("a", 49))
		case 5:
			x.Data = make([]byte, pick(r, 0, 16384, 16385))
		}
		return x
	}
	for range 3000 {
		d, _ := disk.New(r.Intn(40000))
		s, err := store.Open(d, api.Options{V: num(), Limit: num()})
		if fields(t, err); err != nil {
			continue
		}
		for range 10 {
			var recs []api.Record
			for range r.Intn(3) {
				recs = append(recs, rec())
			}
			l, err := s.Lookup(num())
			for _, err := range []error{s.Append(recs...), s.Raise(num()), s.Replace(num(), num(), recs...), err} {
				fields(t, err)
			}
			if err != nil && len(l) != 0 {
				t.Fatalf("%v beside %v", l, err)
			}
		}
	}
}

// Promise 9.12: stores side by side, each on a disk of its own, answer as one behind the other; and so do the calls of one store that only look.
func TestSideBySide(t *testing.T) {
	_, shared, recs := filled(t)
	var group sync.WaitGroup
	for i := range 8 {
		group.Go(func() {
			for range 20 {
				d, _ := disk.New(1 << 16)
				s, err := store.Open(d, api.Options{V: 2, Limit: 100})
				if err != nil {
					t.Error(err)
					return
				}
				err = errors.Join(s.Append(recs[:7]...), s.Append(recs[7:]...), s.Rotate(), s.Replace(3, i, recs...))
				l, err2 := s.Records()
				found, err3 := shared.Lookup(1 + i%3)
				all, err4 := shared.Records()
				b, err5 := shared.Blobs()
				if err := errors.Join(err, err2, err3, err4, err5); err != nil || !sameRecs(l, lifted(3, recs)) || !sameRecs(all, recs) || len(found) < 4 || len(b) != shared.Stat().Segs || len(shared.Segments()) != len(b) {
					t.Errorf("worker %d: %v", i, err)
				}
				scribble(all, api.Record{})
				scribble(found, api.Record{})
			}
		})
	}
	group.Wait()
}
