package wire_test

import (
	"bytes"
	"math"
	"math/rand"
	"testing"

	"annals/api"
	"annals/wire"
)

const (
	frameA      = "\x01a\x70\x72\x77\x62\xa5"
	frameAnnals = "\x06annals\x9d\xda\xbe\x89\xa5"
)

// framed is the frame of a body that may be one.
func framed(t *testing.T, body []byte) []byte {
	t.Helper()
	f, e := wire.Frame(body)
	if e != api.OK {
		t.Fatalf("a body of %d bytes: error %d", len(body), e)
	}
	return f
}

// randomBody is a body of 1 to most bytes.
func randomBody(r *rand.Rand, most int) []byte {
	b := make([]byte, 1+r.Intn(most))
	r.Read(b)
	return b
}

// Promise 1.0, Frame: the chapter's examples, in one part and in several.
func TestFrameExamples(t *testing.T) {
	rows := []struct {
		parts []string
		f     string
		e     api.Errno
	}{
		{[]string{"a"}, frameA, api.OK},
		{[]string{"", "a", ""}, frameA, api.OK},
		{[]string{"annals"}, frameAnnals, api.OK},
		{[]string{"a", "nn", "", "als"}, frameAnnals, api.OK},
		{nil, "", api.ErrEmpty},
		{[]string{""}, "", api.ErrEmpty},
		{[]string{"", ""}, "", api.ErrEmpty},
	}
	for _, r := range rows {
		var parts [][]byte
		for _, p := range r.parts {
			parts = append(parts, []byte(p))
		}
		if f, e := wire.Frame(parts...); string(f) != r.f || e != r.e {
			t.Errorf("Frame(%q) = % x, %d, not % x, %d", r.parts, f, e, r.f, r.e)
		}
	}
	if f, e := wire.Frame(nil, nil); len(f) != 0 || e != api.ErrEmpty {
		t.Errorf("Frame(nil, nil) = % x, %d", f, e)
	}
}

// Promise 1.0, Frame: the length, the body, the sum of both with its lowest byte first, the mark.
func TestFrameLayout(t *testing.T) {
	r := rand.New(rand.NewSource(8))
	for range 300 {
		body := randomBody(r, 300)
		want := wire.Bytes(body)
		s := wire.Sum(want)
		want = append(want, byte(s), byte(s>>8), byte(s>>16), byte(s>>24), 0xa5)
		if f := framed(t, body); !bytes.Equal(f, want) {
			t.Fatalf("Frame(% x) = % x, not % x", body, f, want)
		}
	}
}

// Promise 1.0, Frame and ReadFrame: the longest body, and one that is a byte longer.
func TestFrameBound(t *testing.T) {
	most := repeat(api.MaxFrame, 'm')
	f := framed(t, most)
	if len(f) != api.MaxFrame+8 {
		t.Errorf("the longest frame has %d bytes", len(f))
	}
	if b, p, e := wire.ReadFrame(f, 0); !bytes.Equal(b, most) || p != len(f) || e != api.OK {
		t.Errorf("the longest body is read as %d bytes, %d, %d", len(b), p, e)
	}
	for _, parts := range [][][]byte{{most, {0}}, {{0}, most}, {most, most}, {repeat(api.MaxFrame+1, 0)}} {
		if f, e := wire.Frame(parts...); len(f) != 0 || e != api.ErrOver {
			t.Errorf("a body too long: %d bytes, error %d", len(f), e)
		}
	}
	body := repeat(api.MaxFrame+1, 0)
	over := wire.Bytes(body)
	s := wire.Sum(over)
	over = append(over, byte(s), byte(s>>8), byte(s>>16), byte(s>>24), 0xa5)
	if b, p, e := wire.ReadFrame(over, 0); len(b) != 0 || p != 0 || e != api.ErrOver {
		t.Errorf("a frame too long is read as %d bytes, %d, %d", len(b), p, e)
	}
}

// Promise 1.0, ReadFrame: places, wrong bytes, and which error comes first.
func TestReadFrame(t *testing.T) {
	rows := []struct {
		b    string
		at   int
		body string
		p    int
		e    api.Errno
	}{
		{frameA, 0, "a", 7, api.OK},
		{"zz" + frameA + "z", 2, "a", 9, api.OK},
		{frameAnnals, 0, "annals", 12, api.OK},
		{frameA, -1, "", 0, api.ErrArg},
		{frameA, 8, "", 0, api.ErrArg},
		{frameA, math.MinInt, "", 0, api.ErrArg},
		{frameA, math.MaxInt, "", 0, api.ErrArg},
		{"", 1, "", 0, api.ErrArg},
		{"", 0, "", 0, api.ErrShort},
		{frameA, 7, "", 0, api.ErrShort},
		{"\x81", 0, "", 0, api.ErrShort},
		{"\x81\x00" + frameA[1:], 0, "", 0, api.ErrMinimal},
		{string(repeat(9, 0xff, 2)), 0, "", 0, api.ErrWide},
		{"\x00", 0, "", 0, api.ErrEmpty},
		{"\x00\x8d\xef\x02\xd2\xa5", 0, "", 0, api.ErrEmpty},
		{"\x81\x80\x40", 0, "", 0, api.ErrOver},
		{string(repeat(9, 0xff, 1)), 0, "", 0, api.ErrOver},
		{string(repeat(8, 0xff, 0x7f)), 0, "", 0, api.ErrOver},
		{"\x80\x80\x40", 0, "", 0, api.ErrShort},
		{frameA[:1], 0, "", 0, api.ErrShort},
		{frameA[:6], 0, "", 0, api.ErrShort},
		{"\x01b\x70\x72\x77\x62", 0, "", 0, api.ErrShort},
		{frameA[:6] + "\x00", 0, "", 0, api.ErrMark},
		{frameA[:6] + "\xa4", 0, "", 0, api.ErrMark},
		{frameA[:6] + "\x00\xa5", 0, "", 0, api.ErrMark},
		{"\x01b\x70\x72\x77\x62\x00", 0, "", 0, api.ErrMark},
		{"\x01b\x70\x72\x77\x62\xa5", 0, "", 0, api.ErrSum},
		{"\x01a\x71\x72\x77\x62\xa5", 0, "", 0, api.ErrSum},
		{"\x01a\x62\x77\x72\x70\xa5", 0, "", 0, api.ErrSum},
		{"\x01a\x43\xbe\xb7\xe8\xa5", 0, "", 0, api.ErrSum}, // the sum of the body alone
	}
	for _, r := range rows {
		if b, p, e := wire.ReadFrame([]byte(r.b), r.at); string(b) != r.body || p != r.p || e != r.e {
			t.Errorf("ReadFrame(%q, %d) = %q, %d, %d, not %q, %d, %d", r.b, r.at, b, p, e, r.body, r.p, r.e)
		}
	}
}

// sameBodies tells whether the bodies are just these.
func sameBodies(got [][]byte, want ...[]byte) bool {
	if len(got) != len(want) {
		return false
	}
	for i := range got {
		if !bytes.Equal(got[i], want[i]) {
			return false
		}
	}
	return true
}

// Promise 1.0, ReadFrames: as many frames as stand there, and the place behind them.
func TestReadFrames(t *testing.T) {
	a, annals := []byte("a"), []byte("annals")
	rows := []struct {
		b      string
		at     int
		bodies [][]byte
		p      int
	}{
		{"", 0, nil, 0},
		{frameA, 0, [][]byte{a}, 7},
		{frameA, 7, nil, 7},
		{frameA + frameAnnals, 0, [][]byte{a, annals}, 19},
		{frameA + frameAnnals, 7, [][]byte{annals}, 19},
		{frameA + frameAnnals, 1, nil, 1},
		{"z" + frameA + frameA[:6], 1, [][]byte{a}, 8},
		{frameA + frameA[:3], 0, [][]byte{a}, 7},
		{frameA + "\x00" + frameA, 0, [][]byte{a}, 7},
		{frameA + "\x00\x00\x00\x00\x00\x00\x00\x00", 0, [][]byte{a}, 7},
		{frameA[:6] + "\x00" + frameA, 0, nil, 0},
		{"\x01a", 2, nil, 2},
		{"\x01a", 3, nil, 0},
		{frameA, -1, nil, 0},
		{frameA, 8, nil, 0},
		{frameA, math.MinInt, nil, 0},
		{frameA, math.MaxInt, nil, 0},
	}
	for _, r := range rows {
		if l, p := wire.ReadFrames([]byte(r.b), r.at); !sameBodies(l, r.bodies...) || p != r.p {
			t.Errorf("ReadFrames(%q, %d) = %q, %d, not %q, %d", r.b, r.at, l, p, r.bodies, r.p)
		}
	}
}

// Promise 1.1: a body that is framed, in whatever parts, is read again, whatever lies ahead and behind.
func TestFramesAreReadAgain(t *testing.T) {
	r := rand.New(rand.NewSource(9))
	for range 2000 {
		body := randomBody(r, 400)
		f, e := wire.Frame(cut(r, body)...)
		b, at := around(r, f)
		if got, p, e2 := wire.ReadFrame(b, at); e != api.OK || !bytes.Equal(got, body) || p != at+len(f) || e2 != api.OK {
			t.Fatalf("the body % x is read as % x, %d, %d", body, got, p, e2)
		}
	}
}

// Promise 1.2: of a frame that is changed somewhere, what is read is still the one writing.
func TestOneWritingOfFrames(t *testing.T) {
	r := rand.New(rand.NewSource(10))
	for range 20000 {
		f := framed(t, randomBody(r, 140))
		f[r.Intn(len(f))] = byte(r.Intn(256))
		oneWriting(t, f, 0)
		// the same length in a byte more: it has to be refused, however right the rest is
		long := append([]byte{f[0] | 0x80, 0}, f[1:]...)
		oneWriting(t, long, 0)
	}
}

// zeroSum is a body whose frame has a sum of four zeros: its last four bytes are reckoned back from the register's end.
func zeroSum(ahead []byte) []byte {
	body := append(bytes.Clone(ahead), 0, 0, 0, 0)
	head := wire.Uint(uint64(len(body)))
	want := uint32(0xffffffff)
	for range 32 {
		if want&0x80000000 != 0 {
			want = (want^0xedb88320)<<1 | 1
		} else {
			want <<= 1
		}
	}
	last := ^wire.Sum(head, ahead) ^ want
	for i := range 4 {
		body[len(ahead)+i] = byte(last >> (8 * i))
	}
	return body
}

// Promise 1.3: the beginning of a frame, with zeros behind, is refused; also if the torn sum is a right one.
func TestTornFrames(t *testing.T) {
	r := rand.New(rand.NewSource(11))
	bodies := [][]byte{{0}, {'a'}, make([]byte, 300), repeat(127, 0xa5), repeat(128, 0xa5), repeat(16384, 1)}
	for n := range 140 {
		bodies = append(bodies, zeroSum(make([]byte, n)), randomBody(r, 300))
	}
	for _, body := range bodies {
		f := framed(t, body)
		for k := range f {
			if len(f) > 1000 && k > 10 && k < len(f)-10 {
				continue
			}
			for _, zeros := range []int{0, 1, len(f) - k - 1, len(f) - k, len(f) - k + 1, len(f) + 9} {
				torn := append(bytes.Clone(f[:k]), make([]byte, zeros)...)
				if b, p, e := wire.ReadFrame(torn, 0); e == api.OK || len(b) != 0 || p != 0 {
					t.Fatalf("the first %d of %d bytes and %d zeros are a frame", k, len(f), zeros)
				}
			}
		}
	}
}

// Promise 1.3: such a body is one whose torn frame nothing but the mark tells.
func TestTornFrameOfZeroSum(t *testing.T) {
	body := zeroSum([]byte("torn"))
	f := framed(t, body)
	if !bytes.Equal(f[len(f)-5:], []byte{0, 0, 0, 0, api.Mark}) {
		t.Fatalf("the frame % x has no sum of zeros", f)
	}
	f[len(f)-1] = 0
	if _, _, e := wire.ReadFrame(f, 0); e != api.ErrMark {
		t.Errorf("error %d", e)
	}
}

// flip turns over those bits of b that are set in bits, the lowest one at the bit at.
func flip(b []byte, at int, bits uint32) []byte {
	out := bytes.Clone(b)
	for i := range 32 {
		if bits>>i&1 == 1 {
			out[(at+i)/8] ^= 1 << ((at + i) % 8)
		}
	}
	return out
}

// Promise 1.4: bits that are turned over within 32 beside one another, in the body and the sum, are told by ErrSum.
func TestBursts(t *testing.T) {
	r := rand.New(rand.NewSource(12))
	for _, n := range []int{1, 2, 3, 4, 5, 31, 127, 128, 200} {
		body := make([]byte, n)
		r.Read(body)
		f := framed(t, body)
		from, to := 8*(len(f)-5-n), 8*(len(f)-1)
		for at := from; at < to; at++ {
			wide := min(32, to-at)
			for k := range 40 {
				bits := r.Uint32() | 1
				if k < wide { // every pair, and the single bit
					bits = 1 | 1<<k
				}
				bits &= math.MaxUint32 >> (32 - wide)
				if b, p, e := wire.ReadFrame(flip(f, at, bits), 0); e != api.ErrSum || len(b) != 0 || p != 0 {
					t.Fatalf("% x with the bits %x turned over at %d: error %d", f, bits, at, e)
				}
			}
		}
	}
}

// Promise 1.5: bodies framed one behind the other are read as they were, whatever torn frame lies behind.
func TestFramesBehindOneAnother(t *testing.T) {
	r := rand.New(rand.NewSource(13))
	for range 1000 {
		ahead := make([]byte, r.Intn(9))
		r.Read(ahead)
		b := bytes.Clone(ahead)
		var bodies [][]byte
		for range r.Intn(7) {
			body := randomBody(r, 200)
			bodies = append(bodies, body)
			b = append(b, framed(t, body)...)
		}
		end := len(b)
		torn := framed(t, zeroSum(randomBody(r, 200)))
		b = append(b, torn[:r.Intn(len(torn))]...)
		b = append(b, make([]byte, r.Intn(250))...)
		if got, p := wire.ReadFrames(b, len(ahead)); !sameBodies(got, bodies...) || p != end {
			t.Fatalf("%d bodies up to %d are read as %d up to %d", len(bodies), end, len(got), p)
		}
	}
}
