package segment_test

import (
	"bytes"
	"math"
	"math/rand"
	"slices"
	"strings"
	"sync"
	"testing"

	"annals/api"
	"annals/record"
	"annals/segment"
)

// room is a list with all its spare room.
func room[T any](list []T) []T { return list[:cap(list)] }

// spare is b with spare room behind it that is not zero, and that would go on with b.
func spare(b []byte, behind string) []byte {
	whole := append(bytes.Clone(b), behind...)
	return whole[:len(b):len(whole)]
}

// scribble writes into a list, and behind its end.
func scribble[T any](list []T, v T) {
	for i := range room(list) {
		room(list)[i] = v
	}
}

// deep is a copy of what a reader tells that shares nothing with it.
func deep(s api.Scan) api.Scan {
	out := s
	out.Recs = cloneAll(s.Recs)
	out.At = slices.Clone(s.At)
	out.Index = nil
	for _, x := range s.Index {
		out.Index = append(out.Index, api.Entry{Saga: x.Saga, At: slices.Clone(x.At)})
	}
	return out
}

func cloneAll(recs []api.Record) []api.Record {
	var out []api.Record
	for _, r := range recs {
		out = append(out, record.Clone(r))
	}
	return out
}

// withData is records all of which have data.
func withData() []api.Record {
	var out []api.Record
	for i := range 9 {
		out = append(out, api.Record{V: 2, Kind: api.KDone, Saga: 1 + i%3, Step: i, Data: bytes.Repeat([]byte{byte('a' + i)}, 1+i*5)})
	}
	return out
}

// Promise 7.11: no two lists of what Scan and Read tell share any memory, spare room too, and none shares any with b.
func TestListsApart(t *testing.T) {
	b := sealed(2, withData()...)
	was := bytes.Clone(b)
	for name, call := range map[string]func([]byte) (api.Scan, api.Errno){"Scan": segment.Scan, "Read": segment.Read} {
		first, _ := call(b)
		want := deep(first)
		// Each list is written into by itself, in an answer of its own; all that was not written into must stay.
		lists := 3 + len(want.Recs) + len(want.Index)
		for i := range lists {
			s, e := call(b)
			if e != api.OK || !sameScan(s, want) {
				t.Fatalf("%s: %+v, %d", name, s, e)
			}
			w := deep(want)
			switch k := i - 3; {
			case i == 0:
				scribble(s.At, -1)
				scribble(w.At, -1)
			case i == 1:
				scribble(s.Recs, api.Record{V: 9})
				scribble(w.Recs, api.Record{V: 9})
			case i == 2:
				scribble(s.Index, api.Entry{Saga: 9})
				scribble(w.Index, api.Entry{Saga: 9})
			case k < len(want.Recs):
				scribble(s.Recs[k].Data, 0x5a)
				scribble(w.Recs[k].Data, 0x5a)
			default:
				scribble(s.Index[k-len(want.Recs)].At, -7)
				scribble(w.Index[k-len(want.Recs)].At, -7)
			}
			if !sameScan(s, w) || !bytes.Equal(b, was) {
				t.Errorf("%s: writing into list %d changes another", name, i)
			}
		}
		if !sameScan(first, want) {
			t.Errorf("%s: writing into one answer changes another", name)
		}
	}
}

// Promise 7.11: the records that Find tells share no memory with one another or with b.
func TestFoundApart(t *testing.T) {
	b := sealed(2, withData()...)
	was := bytes.Clone(b)
	first, _ := segment.Find(b, 2)
	want := cloneAll(first)
	for i := range want {
		l, _ := segment.Find(b, 2)
		scribble(l[i].Data, 0x5a)
		for k := range l {
			if k != i && !record.Same(l[k], want[k]) {
				t.Errorf("writing into the data of record %d changes that of %d", i, k)
			}
		}
	}
	l, _ := segment.Find(b, 2)
	scribble(l, api.Record{V: 9})
	again, _ := segment.Find(b, 2)
	if !bytes.Equal(b, was) || !sameRecs(first, want) || !sameRecs(again, want) || len(want) != 3 {
		t.Error("writing into an answer changes another thing")
	}
}

// Promise 7.11: the bytes that the writers tell are new at each call.
func TestBytesAreNew(t *testing.T) {
	b := open(2, withData()...)
	calls := []func() []byte{
		func() []byte { b, _ := segment.Start(2); return b },
		func() []byte { b, _ := segment.Pack(2, withData()...); return b },
		func() []byte { b, _ := segment.Pack(2); return b },
		func() []byte { f, _ := segment.Footer(b); return f },
		func() []byte { f, _ := segment.Footer(b[:5]); return f },
	}
	for i, call := range calls {
		first, second := call(), call()
		was := bytes.Clone(second)
		scribble(first, 0x5a)
		if !bytes.Equal(second, was) || !bytes.Equal(call(), was) {
			t.Errorf("call %d: writing into an answer changes another", i)
		}
	}
	if !bytes.Equal(b, open(2, withData()...)) {
		t.Error("the segment became another")
	}
}

// Promise 7.11: the readers change nothing of what they are given, nor the spare room behind it, read nothing of that room, and keep nothing.
func TestBytesStay(t *testing.T) {
	recs := withData()
	whole := sealed(2, recs...)
	for _, cut := range []int{0, 4, 5, 6, 40, len(open(2, recs...)) - 1, len(open(2, recs...)), len(whole) - 8, len(whole) - 1, len(whole)} {
		b := spare(whole[:cut], string(whole[cut:])+"more")
		was := bytes.Clone(room(b))
		s, e := segment.Scan(b)
		r, e2 := segment.Read(b)
		f, e3 := segment.Footer(b)
		l, e4 := segment.Find(b, 2)
		if !bytes.Equal(room(b), was) {
			t.Fatalf("cut at %d: what was handed in became % x", cut, room(b))
		}
		scribble(b, 0x5a)
		tight := slices.Clip(bytes.Clone(whole[:cut]))
		if got, e5 := segment.Scan(tight); e5 != e || !sameScan(got, s) {
			t.Errorf("cut at %d: Scan is %+v, %d with room behind, %+v, %d without", cut, s, e, got, e5)
		}
		if got, e5 := segment.Read(tight); e5 != e2 || !sameScan(got, r) {
			t.Errorf("cut at %d: Read is %+v, %d with room behind, %+v, %d without", cut, r, e2, got, e5)
		}
		if got, e5 := segment.Footer(tight); e5 != e3 || !bytes.Equal(got, f) {
			t.Errorf("cut at %d: Footer is % x, %d with room behind, % x, %d without", cut, f, e3, got, e5)
		}
		if got, e5 := segment.Find(tight, 2); e5 != e4 || !sameRecs(got, l) {
			t.Errorf("cut at %d: Find is %+v, %d with room behind, %+v, %d without", cut, l, e4, got, e5)
		}
	}
}

// Promise 7.11: Pack changes nothing of the records that it is given, nor the spare room behind them and behind their data, and keeps nothing.
func TestRecordsStay(t *testing.T) {
	recs := append(withData(), api.Record{V: 9, Kind: 9, Data: []byte("room")})
	recs = recs[:len(recs)-1]
	for i := range recs {
		recs[i].Data = spare(recs[i].Data, "spare room")
	}
	was := cloneAll(room(recs))
	b, e := segment.Pack(2, recs...)
	text := string(b)
	if _, e := segment.Pack(1, recs...); e != api.ErrMixed {
		t.Errorf("%d", e)
	}
	if e != api.OK || !sameRecs(room(recs), was) || !bytes.Equal(b, open(2, withData()...)[5:]) {
		t.Fatalf("the records became %+v", room(recs))
	}
	for i, r := range recs {
		if string(room(r.Data)) != string(was[i].Data)+"spare room" {
			t.Errorf("the room behind the data of record %d became %q", i, room(r.Data))
		}
		scribble(r.Data, 0x5a)
	}
	scribble(recs, api.Record{})
	if string(b) != text {
		t.Error("an answer changes with what was handed in")
	}
}

// Promise 7.11: no call panics or runs on, whatever it is given; beside an error the answer is zero.
func TestAnythingIsTaken(t *testing.T) {
	r := rand.New(rand.NewSource(6))
	num := func() int {
		return pick(r, math.MinInt, -1, 0, 1, 2, 3, 4, 7, 31, 32, 1000, math.MaxInt, int(r.Uint64()))
	}
	for range 5000 {
		v := num()
		if b, e := segment.Start(v); (e == api.OK) != (len(b) == 5) {
			t.Fatalf("Start(%d) = % x, %d", v, b, e)
		}
		x := api.Record{V: num(), Kind: num(), Saga: num(), Step: num(), Try: num(), At: num(), Last: num(), Code: num(), Count: num(), Pivot: num(), Name: pick(r, "", "a", "\xff"), Data: drawData(r)}
		if b, e := segment.Pack(v, x); e != api.OK && len(b) != 0 {
			t.Fatalf("Pack(%d, %+v) = % x, %d", v, x, b, e)
		}
		b := make([]byte, r.Intn(60))
		r.Read(b)
		if r.Intn(2) == 0 {
			b = append(header(v&7), b...)
		}
		if r.Intn(2) == 0 {
			b = append(b, "SEAL"...)
		}
		if f, e := segment.Footer(b); e != api.OK && len(f) != 0 {
			t.Fatalf("Footer(% x) = % x, %d", b, f, e)
		}
		s, e := segment.Scan(b)
		s2, e2 := segment.Read(b)
		if e != api.OK && !sameScan(s, api.Scan{}) || e2 != api.OK && !sameScan(s2, api.Scan{}) {
			t.Fatalf("% x: %+v, %d, %+v, %d", b, s, e, s2, e2)
		}
		if l, e := segment.Find(b, num()); e != api.OK && len(l) != 0 {
			t.Fatalf("Find(% x, ..) = %+v, %d", b, l, e)
		}
	}
	great := api.Record{V: 1, Kind: api.KDone, Saga: 1, Name: strings.Repeat("x", 1<<22), Data: make([]byte, 1<<22)}
	if b, e := segment.Pack(1, great); e != api.ErrExtra || len(b) != 0 {
		t.Errorf("a great record: %d bytes, %d", len(b), e)
	}
}

// Promise 7.11: records that lie within one another's data, and a footer that tells them all, are found in no time to speak of.
func TestNested(t *testing.T) {
	f := frameOf(api.Record{V: 1, Kind: api.KDone, Saga: 1})
	depth := 1
	for len(f) < api.MaxData {
		f = frameOf(api.Record{V: 1, Kind: api.KDone, Saga: 1, Data: f})
		depth++
	}
	b := append(header(1), f...)
	var at []int
	for p := 5; p < len(b); p++ {
		if _, _, ok := slowGood(1, b, p); ok {
			at = append(at, p)
		}
	}
	l, e := segment.Find(under(b, 1, api.Entry{Saga: 1, At: at}), 1)
	if e != api.OK || len(l) != depth || len(at) != depth {
		t.Errorf("%d of %d records, %d", len(l), depth, e)
	}
}

// Promise 7.11: calls side by side answer as calls one behind the other.
func TestSideBySide(t *testing.T) {
	var group sync.WaitGroup
	recs := withData()
	b := sealed(2, recs...)
	want, _ := segment.Read(b)
	for i := range 8 {
		group.Go(func() {
			for range 50 {
				s, e := segment.Read(b)
				s2, e2 := segment.Scan(b)
				if e != api.OK || e2 != api.OK || !sameScan(s, want) || !sameScan(s2, want) {
					t.Errorf("worker %d: %+v, %d, %+v, %d", i, s, e, s2, e2)
				}
				l, e := segment.Find(b, 1+i%3)
				p, e2 := segment.Pack(2, recs...)
				f, e3 := segment.Footer(open(2, recs...))
				if e != api.OK || e2 != api.OK || e3 != api.OK || len(l) != 3 || !bytes.Equal(join(header(2), p, f), b) {
					t.Errorf("worker %d: %d, %d, %d", i, e, e2, e3)
				}
				scribble(s.Recs[i].Data, byte(i))
				scribble(l, api.Record{})
			}
		})
	}
	group.Wait()
}
