package manifest_test

import (
	"bytes"
	"math"
	"math/rand"
	"slices"
	"testing"

	"annals/api"
	"annals/manifest"
	"annals/wire"
)

var (
	oneBytes = []byte{0x09, 'M', 0x01, 0x03, 0x02, 0x00, 0x01, 0x01, 0x00, 0x00, 0xb6, 0x11, 0xb6, 0x39, 0xa5}
	twoBytes = []byte{0x0c, 'M', 0x02, 0x03, 0x03, 0x09, 0x02, 0x01, 0x46, 0x02, 0x01, 0x00, 0x00, 0x92, 0xa1, 0x20, 0x8e, 0xa5}
)

// Promises 8.4, 8.5: the examples, there and back.
func TestBytesExamples(t *testing.T) {
	for _, c := range []struct {
		m api.Manifest
		b []byte
	}{{one(), oneBytes}, {two(), twoBytes}} {
		if b, e := manifest.Encode(c.m); e != api.OK || !bytes.Equal(b, c.b) {
			t.Errorf("Encode(%+v) = % x, %d", c.m, b, e)
		}
		if m, e := manifest.Decode(c.b); e != api.OK || !same(m, c.m) {
			t.Errorf("Decode(% x) = %+v, %d", c.b, m, e)
		}
	}
	if m, e := manifest.Decode(append(slices.Clone(twoBytes), 0)); e != api.ErrManifest || !same(m, api.Manifest{}) {
		t.Errorf("with a byte behind: %+v, %d", m, e)
	}
}

// Promise 8.4: the greatest values, written byte by byte; a Num is told less the one before it.
func TestGreatBytes(t *testing.T) {
	m := api.Manifest{Gen: maxNumber, V: 1, Next: maxNumber, Top: math.MaxInt, Segs: segs(300, 524288, 524288, 301, 1, 0, maxNumber-1, 0, 0)}
	want := frame('M',
		0x80, 0x80, 0x80, 0x80, 0x80, 0x20,
		1,
		0x80, 0x80, 0x80, 0x80, 0x80, 0x20,
		0xff, 0xff, 0xff, 0xff, 0xff, 0xff, 0xff, 0xff, 0x7f,
		3,
		0xac, 0x02, 0x80, 0x80, 0x20, 0x80, 0x80, 0x20,
		1, 1, 0,
		0xd2, 0xfd, 0xff, 0xff, 0xff, 0x1f, 0, 0)
	if b, e := manifest.Encode(m); e != api.OK || !bytes.Equal(b, want) {
		t.Errorf("% x, %d", b, e)
	}
	if back, e := manifest.Decode(want); e != api.OK || !same(back, m) {
		t.Errorf("%+v, %d", back, e)
	}
}

// numbers is the numbers of a body, each as its bytes.
func numbers(nums ...uint64) [][]byte {
	var out [][]byte
	for _, n := range nums {
		out = append(out, wire.Uint(n))
	}
	return out
}

// bodyOf is a frame around M and what lies behind it.
func bodyOf(parts ...[]byte) []byte {
	b, _ := wire.Frame(append([][]byte{[]byte("M")}, parts...)...)
	return b
}

// refuses tells if Decode does not answer an error, or something beside it.
func refuses(t *testing.T, what string, b []byte, want api.Errno) {
	t.Helper()
	if m, e := manifest.Decode(b); e != want || !same(m, api.Manifest{}) {
		t.Errorf("%s: %+v, %d, want %d", what, m, e, want)
	}
	agree(t, b)
}

// Promise 8.5: the errors of the frame come first.
func TestFrameErrors(t *testing.T) {
	bad := slices.Clone(oneBytes)
	bad[3] ^= 1
	refuses(t, "no byte", nil, api.ErrShort)
	refuses(t, "an empty frame", []byte{0, 0, 0, 0, 0, 0xa5}, api.ErrEmpty)
	refuses(t, "a length with a byte too many", append([]byte{0x89, 0x00}, oneBytes[1:]...), api.ErrMinimal)
	refuses(t, "a length that is too wide", bytes.Repeat([]byte{0xff}, 12), api.ErrWide)
	refuses(t, "a length above the bound", append(wire.Uint(api.MaxFrame+1), make([]byte, 99)...), api.ErrOver)
	refuses(t, "a wrong mark", append(slices.Clone(oneBytes[:14]), 0), api.ErrMark)
	refuses(t, "a wrong sum", bad, api.ErrSum)
	refuses(t, "a wrong sum, and a byte behind", append(bad, 0), api.ErrSum)
	for cut := range oneBytes {
		refuses(t, "cut off", oneBytes[:cut], api.ErrShort)
	}
	for i := range twoBytes {
		for bit := range 8 {
			b := slices.Clone(twoBytes)
			b[i] ^= 1 << bit
			if e := agree(t, b); e == api.OK {
				t.Errorf("bit %d of byte %d turned over: it is read", bit, i)
			}
		}
	}
}

// Promise 8.5: the frame ends where the bytes end, and its body begins with M.
func TestFrameAndLetter(t *testing.T) {
	for _, behind := range [][]byte{{0}, {0xa5}, oneBytes, make([]byte, 100)} {
		refuses(t, "bytes behind", append(slices.Clone(oneBytes), behind...), api.ErrManifest)
	}
	for c := range 256 {
		b := frame(append([]byte{byte(c)}, oneBytes[2:10]...)...)
		if c == 'M' {
			agree(t, b)
			continue
		}
		refuses(t, "another letter", b, api.ErrManifest)
		refuses(t, "another letter alone", frame(byte(c)), api.ErrManifest)
	}
	refuses(t, "M alone", frame('M'), api.ErrShort)
	refuses(t, "another letter, and a number that is none", frame('m', 0x80), api.ErrManifest)
	refuses(t, "bytes behind, and a number that is none", append(frame('M', 0x80), 0), api.ErrManifest)
}

// wrongNumber is a number that is none, or is too great, and its error.
type wrongNumber struct {
	name string
	b    []byte
	e    api.Errno
}

func wrongNumbers() []wrongNumber {
	return []wrongNumber{
		{"cut off", []byte{0x80}, api.ErrShort},
		{"with a byte too many", []byte{0x81, 0x00}, api.ErrMinimal},
		{"too wide", []byte{0xff, 0xff, 0xff, 0xff, 0xff, 0xff, 0xff, 0xff, 0xff, 0x02}, api.ErrWide},
		{"2^63", wire.Uint(1 << 63), api.ErrManifest},
		{"2^64 - 1", wire.Uint(math.MaxUint64), api.ErrManifest},
	}
}

// Promise 8.5: each number by ReadUint, its errors, and ErrManifest above 2^63 - 1, at each place; what is wrong further left decides.
func TestEachNumber(t *testing.T) {
	// Behind the form everything is wrong here, so that what Check would say must not come first.
	for _, nums := range [][]uint64{{2, 3, 3, 9, 2, 1, 70, 2, 1, 0, 0}, {0, 9, 0, 0, 3, 0, 0, 0, 0, 9, 9, 0, 0, 0}} {
		for place := range nums {
			for _, w := range wrongNumbers() {
				parts := numbers(nums...)
				parts[place] = w.b
				if w.e == api.ErrShort {
					parts = parts[:place+1]
				}
				refuses(t, w.name, bodyOf(parts...), w.e)
				for later := place + 1; later < len(parts); later++ {
					for _, w2 := range wrongNumbers() {
						both := slices.Clone(parts)
						both[later] = w2.b
						refuses(t, w.name+", then "+w2.name, bodyOf(both...), w.e)
					}
				}
			}
			refuses(t, "no number there", bodyOf(numbers(nums[:place]...)...), api.ErrShort)
		}
	}
}

// Promise 8.5: the sum that a segment's Num would be may be 2^63 - 1 and no more, and it is asked ahead of what lies behind it.
func TestSumOfNums(t *testing.T) {
	const most = math.MaxInt64
	rows := []struct {
		steps []uint64
		e     api.Errno
	}{
		{[]uint64{most}, api.ErrSeg}, {[]uint64{most, 0}, api.ErrSeg}, {[]uint64{most - 1, 1}, api.ErrSeg}, {[]uint64{1, most - 1}, api.ErrSeg}, {[]uint64{0, most}, api.ErrSeg},
		{[]uint64{most, 1}, api.ErrManifest}, {[]uint64{1, most}, api.ErrManifest}, {[]uint64{most, most}, api.ErrManifest}, {[]uint64{most - 1, 1, 1}, api.ErrManifest},
		{[]uint64{1 << 62, 1 << 62}, api.ErrManifest}, {[]uint64{1 << 62, 1<<62 - 1}, api.ErrSeg}, {[]uint64{1 << 62, 1<<62 - 1, 1}, api.ErrManifest}, {[]uint64{1, most + 1}, api.ErrManifest}, {[]uint64{1, math.MaxUint64}, api.ErrManifest},
	}
	for _, c := range rows {
		parts := numbers(1, 1, 2, 0, uint64(len(c.steps)))
		for _, s := range c.steps {
			parts = append(parts, numbers(s, 1, 0)...)
		}
		refuses(t, "the sum", bodyOf(parts...), c.e)
		if c.e == api.ErrManifest {
			parts[len(parts)-2] = []byte{0x80, 0x00}
			refuses(t, "the sum, then a wrong Size", bodyOf(parts...), c.e)
			refuses(t, "the sum, then the end", bodyOf(parts[:len(parts)-2]...), c.e)
		}
	}
}

// Promise 8.5: as many segments are read as their number says; a number that is too great comes to the body's end; bytes that are left are no manifest's.
func TestNumberOfSegments(t *testing.T) {
	seg := []byte{1, 5, 0}
	for read := range 5 {
		for _, says := range []uint64{0, 1, 2, 3, 4, 5, 127, 128, 129, 1 << 20, 1 << 40, 1 << 62, math.MaxInt64, 1 << 63, math.MaxUint64} {
			parts := numbers(1, 3, 50, 0, says)
			for range read {
				parts = append(parts, seg)
			}
			want := api.ErrSeg // the last one has a Size
			switch {
			case says > math.MaxInt64:
				want = api.ErrManifest
			case says > uint64(read):
				want = api.ErrShort
			case says < uint64(read):
				want = api.ErrManifest
			case says == 0:
				want = api.ErrSegs
			}
			refuses(t, "the number of segments", bodyOf(parts...), want)
			refuses(t, "the number of segments, with Gen 0", bodyOf(append([][]byte{{0}}, parts[1:]...)...), map[bool]api.Errno{true: api.ErrGen, false: want}[want == api.ErrSeg || want == api.ErrSegs])
		}
	}
	refuses(t, "a byte is left", frame(append(slices.Clone(oneBytes[1:10]), 0)...), api.ErrManifest)
	refuses(t, "a byte is left that is no number", frame(append(slices.Clone(oneBytes[1:10]), 0x80)...), api.ErrManifest)
	refuses(t, "two bytes are left that are no number", frame(append(slices.Clone(oneBytes[1:10]), 0x80, 0x00)...), api.ErrManifest)
}

// Promise 8.5: a body may be as great as a frame's may, and is gone through to its end ahead of Check.
func TestGreatBodies(t *testing.T) {
	const n = (api.MaxFrame - 20) / 3
	body := slices.Concat([]byte("M"), slices.Concat(numbers(1, 3, 9, 0, n)...), bytes.Repeat([]byte{1, 5, 0}, n))
	refuses(t, "as many as there are", frame(body...), api.ErrSegs)
	refuses(t, "a byte is left", frame(append(slices.Clone(body), 0)...), api.ErrManifest)
	refuses(t, "one is cut off", frame(body[:len(body)-1]...), api.ErrShort)
	body[len(body)-2] = 0x80
	body[len(body)-1] = 0x00
	refuses(t, "a number that is none at the end", frame(body...), api.ErrMinimal)
	for _, k := range []int{128, 129} {
		m := many(k)
		want := map[int]api.Errno{128: api.OK, 129: api.ErrSegs}[k]
		if e := agree(t, frame(slowBody(m)...)); e != want {
			t.Errorf("%d segments: %d, want %d", k, e, want)
		}
	}
}

// Promise 8.5: behind the form Check of what was read.
func TestCheckOfWhatWasRead(t *testing.T) {
	rows := []struct {
		m api.Manifest
		e api.Errno
	}{
		{api.Manifest{}, api.ErrGen},
		{api.Manifest{Gen: maxNumber + 1, V: 3, Next: 2, Segs: segs(1, 0, 0)}, api.ErrGen},
		{api.Manifest{Gen: 1, V: 0, Next: 2, Segs: segs(1, 0, 0)}, api.ErrVersion},
		{api.Manifest{Gen: 1, V: 4, Next: 0, Segs: segs(1, 0, 0)}, api.ErrVersion},
		{api.Manifest{Gen: 1, V: 3, Next: 0, Segs: segs(1, 0, 0)}, api.ErrNext},
		{api.Manifest{Gen: 1, V: 3, Next: maxNumber + 1, Segs: segs(1, 0, 0)}, api.ErrNext},
		{api.Manifest{Gen: 1, V: 3, Next: 2, Top: math.MaxInt}, api.ErrSegs},
		{api.Manifest{Gen: 1, V: 3, Next: 2, Segs: segs(0, 0, 0)}, api.ErrSeg},
		{api.Manifest{Gen: 1, V: 3, Next: 9, Segs: segs(2, 5, 0, 2, 0, 0)}, api.ErrSeg},
		{api.Manifest{Gen: 1, V: 3, Next: 2, Segs: segs(2, 0, 0)}, api.ErrSeg},
		{api.Manifest{Gen: 1, V: 3, Next: 2, Segs: segs(1, 1, 0)}, api.ErrSeg},
		{api.Manifest{Gen: 1, V: 3, Next: 2, Segs: segs(1, 0, 1)}, api.ErrSeg},
		{api.Manifest{Gen: 1, V: 3, Next: 9, Segs: segs(1, 524289, 0, 2, 0, 0)}, api.ErrSeg},
		{api.Manifest{Gen: 1, V: 3, Next: 9, Segs: segs(1, 5, 524289, 2, 0, 0)}, api.ErrSeg},
	}
	for _, c := range rows {
		refuses(t, "a manifest that may not be", frame(slowBody(c.m)...), c.e)
	}
	// A Top of 2^63 is no int; it is not Check that refuses it.
	refuses(t, "Top is 2^63", bodyOf(numbers(1, 3, 2, 1<<63, 1, 1, 0, 0)...), api.ErrManifest)
}

// Promises 8.5, 8.6: all short bodies over some bytes, against the second reading.
func TestShortBodies(t *testing.T) {
	told := map[api.Errno]int{}
	letters := []byte{0x00, 0x01, 0x02, 0x80}
	level := [][]byte{{'M'}}
	for range 9 {
		var longer [][]byte
		for _, body := range level {
			told[agree(t, frame(body...))]++
			for _, c := range letters {
				longer = append(longer, append(slices.Clip(body), c))
			}
		}
		level = longer
	}
	for _, e := range []api.Errno{api.OK, api.ErrShort, api.ErrMinimal, api.ErrManifest, api.ErrGen, api.ErrVersion, api.ErrNext, api.ErrSegs, api.ErrSeg} {
		if told[e] == 0 {
			t.Errorf("error %d was never told", e)
		}
	}
}

// Promises 8.5, 8.6: the bodies of drawn manifests with bytes changed, taken out and put in, framed anew, against the second reading.
func TestBrokenBodies(t *testing.T) {
	r := rand.New(rand.NewSource(85))
	good := 0
	for range 40000 {
		m := drawGood(r)
		if len(m.Segs) > 4 {
			m.Segs = m.Segs[len(m.Segs)-1-r.Intn(4):]
		}
		body := slowBody(m)
		for range 1 + r.Intn(2) {
			at := r.Intn(len(body))
			switch r.Intn(4) {
			case 0:
				body[at] = pick(r, 0x00, 0x01, 0x7f, 0x80, 0xff, byte(r.Intn(256)))
			case 1:
				body = slices.Insert(body, at, pick(r, 0x00, 0x01, 0x80, 0xff, byte(r.Intn(256))))
			case 2:
				body[at] ^= 1 << r.Intn(8)
			case 3:
				if body = slices.Delete(body, at, at+1); len(body) == 0 {
					body = []byte("M")
				}
			}
		}
		if agree(t, frame(body...)) == api.OK {
			good++
		}
	}
	if good < 1000 {
		t.Errorf("%d of the broken ones were manifests", good)
	}
}
