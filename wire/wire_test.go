package wire_test

import (
	"bytes"
	"math"
	"math/rand"
	"testing"

	"annals/api"
	"annals/wire"
)

// Promise 1.0: the calls, with the signatures that the chapter lists.
var (
	_ func(uint64) []byte                             = wire.Uint
	_ func([]byte, int) (uint64, int, api.Errno)      = wire.ReadUint
	_ func(int64) []byte                              = wire.Int
	_ func([]byte, int) (int64, int, api.Errno)       = wire.ReadInt
	_ func([]byte) []byte                             = wire.Bytes
	_ func([]byte, int, int) ([]byte, int, api.Errno) = wire.ReadBytes
	_ func(...[]byte) uint32                          = wire.Sum
	_ func(...[]byte) ([]byte, api.Errno)             = wire.Frame
	_ func([]byte, int) ([]byte, int, api.Errno)      = wire.ReadFrame
	_ func([]byte, int) ([][]byte, int)               = wire.ReadFrames
)

// repeat is n bytes c, and more bytes behind them.
func repeat(n int, c byte, more ...byte) []byte {
	return append(bytes.Repeat([]byte{c}, n), more...)
}

// edges are the numbers at which a writing gets longer, and their neighbours.
func edges() []uint64 {
	out := []uint64{0, 1, 300, math.MaxInt64, 1 << 63, math.MaxUint64}
	for bits := 7; bits < 64; bits += 7 {
		out = append(out, 1<<bits-1, 1<<bits, 1<<bits+1)
	}
	return out
}

// numbers are the edges and many others, of all lengths.
func numbers() []uint64 {
	r := rand.New(rand.NewSource(1))
	out := edges()
	for range 4000 {
		out = append(out, r.Uint64()>>r.Intn(64))
	}
	return out
}

// Promise 1.0, Uint: the chapter's examples.
func TestUintExamples(t *testing.T) {
	rows := []struct {
		v uint64
		b []byte
	}{
		{0, []byte{0}},
		{127, []byte{0x7f}},
		{128, []byte{0x80, 0x01}},
		{300, []byte{0xac, 0x02}},
		{math.MaxUint64, repeat(9, 0xff, 0x01)},
	}
	for _, r := range rows {
		if b := wire.Uint(r.v); !bytes.Equal(b, r.b) {
			t.Errorf("Uint(%d) = % x, not % x", r.v, b, r.b)
		}
	}
}

// Promise 1.0, Uint: as many bytes as the number needs, the lowest group first, the highest bit in all but the last.
func TestUintGroups(t *testing.T) {
	for _, v := range numbers() {
		b := wire.Uint(v)
		need := 1
		for rest := v >> 7; rest > 0; rest >>= 7 {
			need++
		}
		if len(b) != need {
			t.Fatalf("Uint(%d) has %d bytes, not %d", v, len(b), need)
		}
		for i, c := range b {
			want := byte(v>>(7*i)) & 0x7f
			if i < need-1 {
				want |= 0x80
			}
			if c != want {
				t.Fatalf("Uint(%d) = % x: byte %d is not %x", v, b, i, want)
			}
		}
	}
}

// Promise 1.0, ReadUint and ReadInt: wrong bytes and places, and which error comes first.
func TestReadUintRefuses(t *testing.T) {
	rows := []struct {
		b  []byte
		at int
		e  api.Errno
	}{
		{nil, -1, api.ErrArg},
		{nil, 1, api.ErrArg},
		{nil, math.MinInt, api.ErrArg},
		{nil, math.MaxInt, api.ErrArg},
		{[]byte{5}, -1, api.ErrArg},
		{[]byte{5}, 2, api.ErrArg},
		{nil, 0, api.ErrShort},
		{[]byte{5}, 1, api.ErrShort},
		{[]byte{0x80}, 0, api.ErrShort},
		{repeat(9, 0x80), 0, api.ErrShort},
		{repeat(9, 0xff), 0, api.ErrShort},
		{[]byte{0x80, 0}, 0, api.ErrMinimal},
		{[]byte{0xff, 0}, 0, api.ErrMinimal},
		{[]byte{0x80, 0x80, 0}, 0, api.ErrMinimal},
		{repeat(8, 0x80, 0), 0, api.ErrMinimal},
		{repeat(9, 0x80, 0), 0, api.ErrMinimal},
		{repeat(9, 0xff, 2), 0, api.ErrWide},
		{repeat(9, 0x80, 2), 0, api.ErrWide},
		{repeat(9, 0x80, 0x7f), 0, api.ErrWide},
		{repeat(9, 0x80, 0x80), 0, api.ErrWide},
		{repeat(9, 0x80, 0x81), 0, api.ErrWide},
		{repeat(10, 0x80, 0), 0, api.ErrWide},
		{repeat(12, 0xff), 0, api.ErrWide},
	}
	for _, r := range rows {
		if v, p, e := wire.ReadUint(r.b, r.at); v != 0 || p != 0 || e != r.e {
			t.Errorf("ReadUint(% x, %d) = %d, %d, %d, not error %d", r.b, r.at, v, p, e, r.e)
		}
		if v, p, e := wire.ReadInt(r.b, r.at); v != 0 || p != 0 || e != r.e {
			t.Errorf("ReadInt(% x, %d) = %d, %d, %d, not error %d", r.b, r.at, v, p, e, r.e)
		}
	}
}

// Promise 1.0, ReadUint: the bytes ahead of at and behind the number are not looked at.
func TestReadUintPlaces(t *testing.T) {
	rows := []struct {
		b  []byte
		at int
		v  uint64
		p  int
	}{
		{[]byte{0xff, 0xac, 0x02, 0x07}, 1, 300, 3},
		{[]byte{0x00}, 0, 0, 1},
		{[]byte{0x00, 0x00}, 0, 0, 1},
		{[]byte{0x00, 0x80}, 0, 0, 1},
		{[]byte{0x80, 0x01}, 1, 1, 2},
		{repeat(9, 0x80, 1), 0, 1 << 63, 10},
		{repeat(9, 0x80, 1, 0xff), 0, 1 << 63, 10},
		{repeat(9, 0x80, 1), 9, 1, 10},
	}
	for _, r := range rows {
		if v, p, e := wire.ReadUint(r.b, r.at); v != r.v || p != r.p || e != api.OK {
			t.Errorf("ReadUint(% x, %d) = %d, %d, %d, not %d, %d", r.b, r.at, v, p, e, r.v, r.p)
		}
	}
}

// Promise 1.0, Int: 2v from 0 on, -2v - 1 below.
func TestIntExamples(t *testing.T) {
	rows := []struct {
		v int64
		u uint64
	}{
		{0, 0}, {-1, 1}, {1, 2}, {-2, 3}, {2, 4},
		{63, 126}, {-64, 127}, {64, 128}, {-65, 129},
		{math.MaxInt64, math.MaxUint64 - 1}, {math.MinInt64, math.MaxUint64},
	}
	for _, r := range rows {
		b := wire.Int(r.v)
		if !bytes.Equal(b, wire.Uint(r.u)) {
			t.Errorf("Int(%d) = % x, not Uint(%d)", r.v, b, r.u)
		}
		if v, p, e := wire.ReadInt(b, 0); v != r.v || p != len(b) || e != api.OK {
			t.Errorf("ReadInt(% x, 0) = %d, %d, %d", b, v, p, e)
		}
	}
}

// Promise 1.0, Bytes: the length and the bytes.
func TestBytesExamples(t *testing.T) {
	long := repeat(128, 'x')
	rows := []struct{ s, b []byte }{
		{nil, []byte{0}},
		{[]byte{}, []byte{0}},
		{[]byte{0}, []byte{1, 0}},
		{[]byte("ab"), []byte("\x02ab")},
		{long, append([]byte{0x80, 1}, long...)},
	}
	for _, r := range rows {
		if b := wire.Bytes(r.s); !bytes.Equal(b, r.b) {
			t.Errorf("Bytes(% x) = % x, not % x", r.s, b, r.b)
		}
	}
}

// Promise 1.0, ReadBytes: places, bounds, wrong bytes, and which error comes first.
func TestReadBytes(t *testing.T) {
	most := string(repeat(9, 0xff, 1))
	rows := []struct {
		b       string
		at, max int
		s       string
		p       int
		e       api.Errno
	}{
		{"\x02ab", 0, 2, "ab", 3, api.OK},
		{"z\x02abz", 1, 3, "ab", 4, api.OK},
		{"\x00", 0, 0, "", 1, api.OK},
		{"\x00z", 0, 0, "", 1, api.OK},
		{"\x02ab", 0, math.MaxInt, "ab", 3, api.OK},
		{"\x00", -1, 0, "", 0, api.ErrArg},
		{"\x00", 2, 0, "", 0, api.ErrArg},
		{"\x00", math.MaxInt, 0, "", 0, api.ErrArg},
		{"\x00", math.MinInt, 0, "", 0, api.ErrArg},
		{"\x00", 0, -1, "", 0, api.ErrArg},
		{"\x00", 0, math.MinInt, "", 0, api.ErrArg},
		{"\x80\x00", 0, -1, "", 0, api.ErrArg},
		{"", 0, -1, "", 0, api.ErrArg},
		{"", 0, 0, "", 0, api.ErrShort},
		{"\x00", 1, 0, "", 0, api.ErrShort},
		{"\x80", 0, 0, "", 0, api.ErrShort},
		{"\x82\x00ab", 0, 9, "", 0, api.ErrMinimal},
		{"\x82\x00ab", 0, 1, "", 0, api.ErrMinimal},
		{string(repeat(9, 0xff, 2)), 0, 9, "", 0, api.ErrWide},
		{"\x01a", 0, 0, "", 0, api.ErrOver},
		{"\x02ab", 0, 1, "", 0, api.ErrOver},
		{"\x02a", 0, 1, "", 0, api.ErrOver},
		{most, 0, math.MaxInt, "", 0, api.ErrOver},
		{string(repeat(9, 0x80, 1)), 0, math.MaxInt, "", 0, api.ErrOver},
		{string(repeat(8, 0xff, 0x7f)), 0, math.MaxInt, "", 0, api.ErrShort},
		{string(repeat(8, 0xff, 0x7f)), 0, math.MaxInt - 1, "", 0, api.ErrOver},
		{"\x02a", 0, 2, "", 0, api.ErrShort},
		{"\x01", 0, 1, "", 0, api.ErrShort},
	}
	for _, r := range rows {
		if s, p, e := wire.ReadBytes([]byte(r.b), r.at, r.max); string(s) != r.s || p != r.p || e != r.e {
			t.Errorf("ReadBytes(%q, %d, %d) = %q, %d, %d, not %q, %d, %d", r.b, r.at, r.max, s, p, e, r.s, r.p, r.e)
		}
	}
}

// around lays bytes ahead of and behind b, and tells the place of b.
func around(r *rand.Rand, b []byte) ([]byte, int) {
	ahead, behind := make([]byte, r.Intn(12)), make([]byte, r.Intn(12))
	r.Read(ahead)
	r.Read(behind)
	return bytes.Join([][]byte{ahead, b, behind}, nil), len(ahead)
}

// Promise 1.1: a number that is written is read again, whatever lies ahead and behind.
func TestNumbersAreReadAgain(t *testing.T) {
	r := rand.New(rand.NewSource(2))
	for _, v := range numbers() {
		w := wire.Uint(v)
		b, at := around(r, w)
		if u, p, e := wire.ReadUint(b, at); u != v || p != at+len(w) || e != api.OK {
			t.Fatalf("ReadUint(% x, %d) = %d, %d, %d, not %d", b, at, u, p, e, v)
		}
		w = wire.Int(int64(v))
		b, at = around(r, w)
		if i, p, e := wire.ReadInt(b, at); i != int64(v) || p != at+len(w) || e != api.OK {
			t.Fatalf("ReadInt(% x, %d) = %d, %d, %d, not %d", b, at, i, p, e, int64(v))
		}
	}
}

// Promise 1.1: a byte string that is written is read again, with any bound that lets it be.
func TestBytesAreReadAgain(t *testing.T) {
	r := rand.New(rand.NewSource(3))
	for n := range 600 {
		s := make([]byte, n)
		r.Read(s)
		w := wire.Bytes(s)
		b, at := around(r, w)
		for _, max := range []int{n, n + 1, math.MaxInt} {
			if got, p, e := wire.ReadBytes(b, at, max); !bytes.Equal(got, s) || p != at+len(w) || e != api.OK {
				t.Fatalf("a byte string of %d bytes is read as % x, %d, %d", n, got, p, e)
			}
		}
		if _, _, e := wire.ReadBytes(b, at, n-1); e == api.OK {
			t.Fatalf("a byte string of %d bytes is read with the bound %d", n, n-1)
		}
	}
}

// oneWriting holds whatever is read at at against what is written of the answer.
func oneWriting(t *testing.T, b []byte, at int) {
	t.Helper()
	if v, p, e := wire.ReadUint(b, at); e == api.OK && !bytes.Equal(b[at:p], wire.Uint(v)) {
		t.Fatalf("ReadUint(% x, %d) = %d, %d: not its writing", b, at, v, p)
	}
	if v, p, e := wire.ReadInt(b, at); e == api.OK && !bytes.Equal(b[at:p], wire.Int(v)) {
		t.Fatalf("ReadInt(% x, %d) = %d, %d: not its writing", b, at, v, p)
	}
	if s, p, e := wire.ReadBytes(b, at, math.MaxInt); e == api.OK && !bytes.Equal(b[at:p], wire.Bytes(s)) {
		t.Fatalf("ReadBytes(% x, %d) = % x, %d: not its writing", b, at, s, p)
	}
	if s, p, e := wire.ReadFrame(b, at); e == api.OK {
		if f, _ := wire.Frame(s); !bytes.Equal(b[at:p], f) {
			t.Fatalf("ReadFrame(% x, %d) = % x, %d: not its writing", b, at, s, p)
		}
	}
}

// Promise 1.2: there is one writing, of all byte strings of up to two bytes and of many longer ones.
func TestOneWriting(t *testing.T) {
	for i := range 1 << 16 {
		b := []byte{byte(i), byte(i >> 8)}
		oneWriting(t, b, 0)
		oneWriting(t, b, 1)
		oneWriting(t, b[:1], 0)
	}
	r := rand.New(rand.NewSource(4))
	few := []byte{0x00, 0x01, 0x02, 0x7f, 0x80, 0x81, 0xff}
	for range 200000 {
		b := make([]byte, 1+r.Intn(14))
		for i := range b {
			b[i] = few[r.Intn(len(few))]
		}
		oneWriting(t, b, r.Intn(len(b)))
	}
}
