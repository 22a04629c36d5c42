package wire_test

import (
	"bytes"
	"math"
	"math/rand"
	"sync"
	"testing"

	"annals/api"
	"annals/wire"
)

// spare is b with spare room behind it that is not zero.
func spare(b []byte) []byte {
	whole := append(bytes.Clone(b), "spare room"...)
	return whole[:len(b):len(whole)]
}

// room is b with all its spare room.
func room(b []byte) []byte { return b[:cap(b)] }

// scribble writes into an answer, and behind its end.
func scribble(b []byte) {
	for i := range room(b) {
		room(b)[i] ^= 0x5a
	}
}

// Promise 1.7: no call panics or runs on, whatever it is given.
func TestAnythingIsTaken(t *testing.T) {
	r := rand.New(rand.NewSource(14))
	places := []int{math.MinInt, -1, 0, 1, 2, 13, math.MaxInt - 1, math.MaxInt}
	for range 20000 {
		b := make([]byte, r.Intn(14))
		r.Read(b)
		for _, at := range append(places, len(b), len(b)+1, r.Intn(14)) {
			wire.ReadUint(b, at)
			wire.ReadInt(b, at)
			wire.ReadBytes(b, at, places[r.Intn(len(places))])
			wire.ReadFrame(b, at)
			wire.ReadFrames(b, at)
		}
	}
	many := make([][]byte, 1<<16)
	for i := range many {
		many[i] = make([]byte, 0, 1)
	}
	if _, e := wire.Frame(many...); e != api.ErrEmpty || wire.Sum(many...) != 0 {
		t.Errorf("many empty parts: error %d", e)
	}
	big := make([]byte, api.MaxFrame)
	for i := range many {
		many[i] = big
	}
	if _, e := wire.Frame(many...); e != api.ErrOver {
		t.Errorf("many great parts: error %d", e)
	}
}

// Promise 1.7: what is handed in is not changed, nor the spare room behind it.
func TestArgumentsStay(t *testing.T) {
	for _, text := range []string{"", "\x02ab", frameA, frameA + frameAnnals, frameA + "\x01a"} {
		b := spare([]byte(text))
		was := bytes.Clone(room(b))
		parts := [][]byte{b, nil, b, []byte("last")}[:3]
		all := parts[:4]
		wire.ReadUint(b, 0)
		wire.ReadInt(b, 0)
		s, _, _ := wire.ReadBytes(b, 0, 100)
		body, _, _ := wire.ReadFrame(b, 0)
		bodies, _ := wire.ReadFrames(b, 0)
		f, _ := wire.Frame(parts...)
		wire.Sum(parts...)
		for _, answer := range append(bodies, wire.Bytes(b), s, body, f) {
			scribble(answer)
		}
		if !bytes.Equal(room(b), was) {
			t.Errorf("%q became %q", was, room(b))
		}
		if !sameBodies(all, b, nil, b, []byte("last")) {
			t.Errorf("the parts became %q", all)
		}
	}
}

// Promise 1.7: what lies in the spare room behind an argument is not read as if it were handed in.
func TestSpareRoomIsNotRead(t *testing.T) {
	for k := range len(frameAnnals) {
		b := []byte(frameAnnals)[:k]
		if body, p, e := wire.ReadFrame(b, 0); len(body) != 0 || p != 0 || e != api.ErrShort {
			t.Errorf("the first %d bytes of a frame are read as %q, %d, %d", k, body, p, e)
		}
		if k > 6 {
			continue
		}
		if s, p, e := wire.ReadBytes(b, 0, 100); len(s) != 0 || p != 0 || e != api.ErrShort {
			t.Errorf("the first %d bytes of a byte string are read as %q, %d, %d", k, s, p, e)
		}
	}
	if _, _, e := wire.ReadUint([]byte{0x80, 1}[:1], 0); e != api.ErrShort {
		t.Errorf("a number is read in the spare room: error %d", e)
	}
	if l, p := wire.ReadFrames([]byte(frameA + frameA)[:7], 0); len(l) != 1 || p != 7 {
		t.Errorf("%d frames up to %d", len(l), p)
	}
}

// Promise 1.7: what was handed in is not kept: whoever changes it later changes no answer.
func TestArgumentsAreNotKept(t *testing.T) {
	b := spare([]byte(frameA + frameAnnals))
	body, _, _ := wire.ReadFrame(b, 0)
	s, _, _ := wire.ReadBytes(b, 0, 100)
	bodies, _ := wire.ReadFrames(b, 0)
	copied := wire.Bytes(b)
	f, _ := wire.Frame(b)
	scribble(b)
	if string(body) != "a" || string(s) != "a" || !sameBodies(bodies, []byte("a"), []byte("annals")) {
		t.Error("what was read changes with the bytes that were read")
	}
	if string(copied) != "\x13"+frameA+frameAnnals || string(f[1:20]) != frameA+frameAnnals {
		t.Error("what was written changes with the bytes that were written")
	}
}

// Promise 1.7: no two bodies of one answer share memory, nor does the spare room behind one lie in another.
func TestBodiesAreApart(t *testing.T) {
	var b []byte
	var want [][]byte
	r := rand.New(rand.NewSource(15))
	for range 40 {
		body := randomBody(r, 40)
		want = append(want, body)
		b = append(b, framed(t, body)...)
	}
	got, _ := wire.ReadFrames(b, 0)
	if !sameBodies(got, want...) {
		t.Fatal("the bodies are others")
	}
	for i := range got {
		scribble(got[i])
		if !sameBodies(got[i+1:], want[i+1:]...) {
			t.Fatalf("writing into body %d changes one behind it", i)
		}
		scribble(got[i])
		if !sameBodies(got, want...) {
			t.Fatalf("writing into body %d changes one ahead of it", i)
		}
	}
}

// Promise 1.7: nothing is kept from call to call: whoever writes into an answer changes no later one.
func TestAnswersAreNew(t *testing.T) {
	calls := []func() []byte{
		func() []byte { return wire.Uint(0) },
		func() []byte { return wire.Uint(math.MaxUint64) },
		func() []byte { return wire.Int(-1) },
		func() []byte { return wire.Bytes(nil) },
		func() []byte { return wire.Bytes([]byte("ab")) },
		func() []byte { f, _ := wire.Frame([]byte("a")); return f },
		func() []byte { b, _, _ := wire.ReadFrame([]byte(frameA), 0); return b },
		func() []byte { b, _, _ := wire.ReadBytes([]byte("\x02ab"), 0, 2); return b },
		func() []byte { l, _ := wire.ReadFrames([]byte(frameA), 0); return l[0] },
	}
	for i, call := range calls {
		first := call()
		was := bytes.Clone(first)
		second := call()
		scribble(first)
		if !bytes.Equal(second, was) || !bytes.Equal(call(), was) {
			t.Errorf("call %d: writing into an answer changes another", i)
		}
	}
}

// Promise 1.7: calls side by side answer as calls one behind the other.
func TestSideBySide(t *testing.T) {
	var group sync.WaitGroup
	for i := range 8 {
		group.Go(func() {
			body := repeat(500, byte(i))
			for range 50 {
				f, _ := wire.Frame(body)
				if got, p, e := wire.ReadFrame(f, 0); !bytes.Equal(got, body) || p != len(f) || e != api.OK {
					t.Errorf("worker %d: %d, %d", i, p, e)
				}
			}
		})
	}
	group.Wait()
}
