package record_test

import (
	"bytes"
	"math"
	"math/rand"
	"strings"
	"sync"
	"testing"

	"annals/api"
	"annals/record"
)

// spare is b with spare room behind it that is not zero.
func spare(b []byte) []byte {
	whole := append(bytes.Clone(b), "spare room"...)
	return whole[:len(b):len(whole)]
}

// room is b with all its spare room.
func room(b []byte) []byte { return b[:cap(b)] }

// scribble writes into an answer, and behind its end.
func scribble(b []byte) {
	for i := range room(b) {
		room(b)[i] ^= 0x5a
	}
}

// drawOdd is a record of any numbers at all.
func drawOdd(r *rand.Rand) api.Record {
	var out api.Record
	for tag := 0; tag <= 11; tag++ {
		if r.Intn(3) > 0 {
			set(&out, tag, pick(r, math.MinInt, math.MinInt+1, -1, 0, 1, 2, 3, 7, 31, 32, 33, 1000, math.MaxInt, int(r.Uint64())))
		}
	}
	return out
}

// Promise 3.9: no call panics or runs on, whatever it is given; beside an error the answer is zero.
func TestAnythingIsTaken(t *testing.T) {
	r := rand.New(rand.NewSource(2))
	for range 20000 {
		x, y := drawOdd(r), drawOdd(r)
		e := record.Check(x)
		b, e2 := record.Encode(x)
		n, e3 := record.Size(x)
		if e2 != e || e3 != e || e != api.OK && (len(b) != 0 || n != 0) {
			t.Fatalf("%+v: %d, %d, %d, % x, %d", x, e, e2, e3, b, n)
		}
		record.Same(x, y)
		record.Clone(x)
		record.Fields(x.V, x.Kind)
		junk := make([]byte, r.Intn(40))
		r.Read(junk)
		if got, e := record.Decode(x.V, junk); e != api.OK && !equal(got, api.Record{}) {
			t.Fatalf("Decode(%d, % x) = %+v beside %d", x.V, junk, got, e)
		}
	}
	great := api.Record{V: 1, Kind: 1, Saga: 1, Step: 1, Name: strings.Repeat("x", 1<<24), Data: make([]byte, 1<<24)}
	if e := record.Check(great); e != api.ErrExtra {
		t.Errorf("a great name: error %d", e)
	}
	if _, e := record.Decode(3, great.Data); e != api.ErrTag {
		t.Errorf("great bytes: error %d", e)
	}
}

// Promise 3.9: what is handed in is not changed, nor the spare room behind it, and it is not kept.
func TestArgumentsStay(t *testing.T) {
	r := rand.New(rand.NewSource(3))
	eachForm(func(v, kind int) {
		for range 20 {
			x := draw(r, v, kind)
			x.Data = spare(x.Data)
			was := bytes.Clone(room(x.Data))
			b, _ := record.Encode(x)
			c := record.Clone(x)
			record.Size(x)
			record.Check(x)
			record.Same(x, c)
			text := string(b)
			in := spare(b)
			inWas := bytes.Clone(room(in))
			read, e := record.Decode(v, in)
			if e != api.OK || !equal(read, x) {
				t.Fatalf("%+v is read as %+v, %d", x, read, e)
			}
			scribble(b)
			scribble(c.Data)
			scribble(read.Data)
			if !bytes.Equal(room(x.Data), was) || !bytes.Equal(room(in), inWas) {
				t.Fatalf("version %d, kind %d: an argument became another", v, kind)
			}
			again, _ := record.Decode(v, in)
			c = record.Clone(x)
			b, _ = record.Encode(x)
			scribble(in)
			scribble(x.Data)
			x.Data = was[:len(x.Data)]
			if !equal(again, x) || !equal(c, x) || string(b) != text {
				t.Fatalf("version %d, kind %d: an answer changes with what was handed in", v, kind)
			}
		}
	})
}

// Promise 3.9: what lies in the spare room behind the bytes is not read as if it were handed in.
func TestSpareRoomIsNotRead(t *testing.T) {
	whole := []byte("\x01\x03\x02\x05\x03\x01\x0b\x03abc")
	for k := range whole {
		if got, e := record.Decode(1, whole[:k]); e == api.OK && (k != 4 && k != 6 || len(got.Data) != 0) {
			t.Errorf("the first %d bytes are read as %+v", k, got)
		}
	}
	a := api.Record{V: 1, Kind: 3, Saga: 5, Data: []byte("abc")[:2]}
	if b, _ := record.Encode(a); string(b) != "\x01\x03\x02\x05\x0b\x02ab" {
		t.Errorf("% x", b)
	}
}

// Promise 3.9: nothing is kept from call to call: whoever writes into an answer changes no later one.
func TestAnswersAreNew(t *testing.T) {
	r := api.Record{V: 1, Kind: 3, Saga: 5, Data: []byte("abc")}
	eachForm(func(v, kind int) {
		first, second := record.Fields(v, kind), record.Fields(v, kind)
		for i := range first[:cap(first)] {
			first[:cap(first)][i] = 99
		}
		for i, tag := range cell(v, kind) {
			if second[i] != tag || record.Fields(v, kind)[i] != tag {
				t.Errorf("Fields(%d, %d): writing into an answer changes another", v, kind)
			}
		}
	})
	calls := []func() []byte{
		func() []byte { b, _ := record.Encode(r); return b },
		func() []byte { return record.Clone(r).Data },
		func() []byte { d, _ := record.Decode(1, []byte("\x01\x03\x02\x05\x0b\x03abc")); return d.Data },
	}
	for i, call := range calls {
		first := call()
		was := bytes.Clone(first)
		second := call()
		scribble(first)
		if len(was) == 0 || !bytes.Equal(second, was) || !bytes.Equal(call(), was) {
			t.Errorf("call %d: writing into an answer changes another", i)
		}
	}
}

// Promise 3.9: calls side by side answer as calls one behind the other.
func TestSideBySide(t *testing.T) {
	var group sync.WaitGroup
	for i := range 8 {
		group.Go(func() {
			r := rand.New(rand.NewSource(int64(i)))
			for range 200 {
				x := draw(r, 1+r.Intn(3), 1+r.Intn(7))
				b, _ := record.Encode(x)
				if got, e := record.Decode(x.V, b); e != api.OK || !record.Same(got, x) {
					t.Errorf("worker %d: %+v is read as %+v, %d", i, x, got, e)
				}
			}
		})
	}
	group.Wait()
}
