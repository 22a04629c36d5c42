package segment_test

import (
	"bytes"
	"math/rand"
	"testing"

	"annals/api"
	"annals/segment"
)

// torn holds what Scan tells of a segment, cut and with zeros behind: the records whose frames are whole ahead of the cut.
func torn(t *testing.T, b []byte, v int, recs []api.Record, cut, zeros int) {
	t.Helper()
	at, end := places(recs...)
	whole := 0
	for whole < len(recs) && append(at[1:len(at):len(at)], end)[whole] <= cut {
		whole++
	}
	want := api.Scan{V: v, End: end, Recs: recs[:whole], At: at[:whole]}
	if whole < len(recs) {
		want.End = at[whole]
	}
	want.Index = entriesOf(want.Recs, want.At)
	s, e := segment.Scan(join(b[:cut], make([]byte, zeros)))
	if e != api.OK || !sameScan(s, want) {
		t.Fatalf("% x cut at %d, with %d zeros: %+v, %d", b, cut, zeros, s, e)
	}
}

// Promise 7.9: cut anywhere behind the header, in a frame or in the footer, with any zeros behind.
func TestTorn(t *testing.T) {
	r := rand.New(rand.NewSource(5))
	for range 25 {
		v := 1 + r.Intn(3)
		recs := append(drawAll(r, v), draw(r, v))
		b := sealed(v, recs...)
		for cut := 5; cut <= len(b); cut++ {
			if cut < len(b) {
				torn(t, b, v, recs, cut, 0)
			}
			for _, zeros := range []int{1, 2, 8, 9, 1 + r.Intn(300)} {
				torn(t, b, v, recs, cut, zeros)
			}
		}
	}
	recs := some()
	b := sealed(3, recs...)
	for cut := 5; cut <= len(b); cut += 3 {
		torn(t, b, 3, recs, cut, api.MaxSegment-cut)
		if s, e := segment.Scan(join(b[:cut], make([]byte, api.MaxSegment-cut+1))); e != api.ErrLong || !sameScan(s, api.Scan{}) {
			t.Errorf("a byte above the bound: %+v, %d", s, e)
		}
	}
}

// Promise 7.9: data that is full of zeros, marks and whole frames makes no torn frame good, and its frames are no records of the segment's.
func TestTornData(t *testing.T) {
	inner := join(frameOf(end1()), unhex(foot1))
	for _, data := range [][]byte{make([]byte, 300), bytes.Repeat([]byte{api.Mark}, 300), bytes.Repeat(inner, 5), append(make([]byte, 200), inner...)} {
		recs := []api.Record{end1(), {V: 1, Kind: api.KDone, Saga: 7, Data: data}, end1()}
		b := sealed(1, recs...)
		for cut := 5; cut < len(b); cut++ {
			for _, zeros := range []int{0, 1, 5, len(b) - cut, 500} {
				torn(t, b, 1, recs, cut, zeros)
			}
		}
	}
}

// Promise 7.9: what is left of a torn segment can be cut to its end, packed on and sealed.
func TestTornAndGoneOn(t *testing.T) {
	recs := some()
	b := sealed(3, recs...)
	for cut := 5; cut < len(b); cut++ {
		left := join(b[:cut], make([]byte, 4))
		s, e := segment.Scan(left)
		if e != api.OK {
			t.Fatalf("cut at %d: %d", cut, e)
		}
		rest, e := segment.Pack(3, recs[len(s.Recs):]...)
		if e != api.OK {
			t.Fatalf("cut at %d: %d", cut, e)
		}
		whole := join(left[:s.End], rest)
		foot, e := segment.Footer(whole)
		if e != api.OK || !bytes.Equal(join(whole, foot), b) {
			t.Fatalf("cut at %d: % x, %d", cut, join(whole, foot), e)
		}
	}
}

// filled is records that make with their footer a segment of just that many bytes.
func filled(t *testing.T, size int) []api.Record {
	t.Helper()
	great := api.Record{V: 1, Kind: api.KDone, Saga: 5, Data: bytes.Repeat([]byte("x"), api.MaxData)}
	var recs []api.Record
	for range 31 {
		recs = append(recs, great)
	}
	last := great
	last.Data = bytes.Repeat([]byte("y"), size-len(sealed(1, recs...))-22)
	for range 8 {
		if n := len(sealed(1, append(recs, last)...)); n != size {
			last.Data = bytes.Repeat([]byte("y"), len(last.Data)+size-n)
		}
	}
	recs = append(recs, last)
	if n := len(sealed(1, recs...)); n != size {
		t.Fatalf("%d bytes, not %d", n, size)
	}
	return recs
}

// Promises 7.3 and 7.7: a sealed segment of just as many bytes as may be is read; of one more it is too long for all readers, and its records alone are not.
func TestGreatestSegment(t *testing.T) {
	recs := filled(t, api.MaxSegment)
	b := written(t, 1, recs...)
	s, e := segment.Read(b)
	if e != api.OK || len(b) != api.MaxSegment || !sameRecs(s.Recs, recs) {
		t.Fatalf("%d bytes: %d records, %d", len(b), len(s.Recs), e)
	}
	if l, e := segment.Find(b, 5); e != api.OK || !sameRecs(l, recs) {
		t.Errorf("Find: %d records, %d", len(l), e)
	}
	recs = filled(t, api.MaxSegment+1)
	b = written(t, 1, recs...)
	if s, e := segment.Read(b); e != api.ErrLong || len(s.Recs) != 0 {
		t.Errorf("Read: %d records, %d", len(s.Recs), e)
	}
	if l, e := segment.Find(b, 0); e != api.ErrLong || len(l) != 0 {
		t.Errorf("Find: %d records, %d", len(l), e)
	}
	if s, e := segment.Scan(b[:len(b)-1]); e != api.OK || !sameRecs(s.Recs, recs) || s.Sealed {
		t.Errorf("Scan: %d records, %d", len(s.Recs), e)
	}
}

// smallest is as many of the smallest records as have room in so many bytes, each of the saga that is told, and how many they are.
func smallest(size int, saga func(i int) int) ([]byte, int) {
	b := header(1)
	for i := 0; ; i++ {
		f := frameOf(api.Record{V: 1, Kind: api.KEnd, Saga: saga(i)})
		if len(b)+len(f) > size {
			return b, i
		}
		b = append(b, f...)
	}
}

// Promises 7.3 and 7.7: there is always room for the footer, of the most records too: of one saga, of as many sagas as records, of sagas far apart. Of half as many all are read.
func TestMostRecords(t *testing.T) {
	ways := map[string]func(int) int{
		"one saga":      func(int) int { return 1 },
		"two sagas":     func(i int) int { return 1 + i%2*(api.MaxID-1) },
		"rising sagas":  func(i int) int { return i + 1 },
		"falling sagas": func(i int) int { return 1<<17 - i },
		"sagas apart":   func(i int) int { return 1 + i<<45 },
	}
	for name, way := range ways {
		b, n := smallest(api.MaxSegment, way)
		foot, e := segment.Footer(b)
		body, end, ok := slowFrame(foot, 0)
		if e != api.OK || !ok || !bytes.HasPrefix(body, append([]byte("X"), number(uint64(n))...)) || !bytes.Equal(foot[end:], trailer(len(b))) {
			t.Errorf("%s: the footer of %d records: %d bytes, %d", name, n, len(foot), e)
		}
		b, n = smallest(api.MaxSegment/2, way)
		foot, e = segment.Footer(b)
		s, e2 := segment.Read(join(b, foot))
		if e != api.OK || e2 != api.OK || len(s.Recs) != n || s.Recs[n-1].Saga != way(n-1) || s.End != len(b) {
			t.Errorf("%s: %d records of %d are read, %d, %d", name, len(s.Recs), n, e, e2)
			continue
		}
		places := 0
		for _, x := range s.Index {
			places += len(x.At)
		}
		if l, e := segment.Find(join(b, foot), way(n-1)); e != api.OK || len(l) == 0 || l[len(l)-1].Saga != way(n-1) || places != n {
			t.Errorf("%s: %d records are found, %d; the index has %d places", name, len(l), e, places)
		}
	}
}
