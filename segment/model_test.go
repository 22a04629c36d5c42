package segment_test

import (
	"bytes"
	"encoding/binary"
	"math/rand"
	"slices"
	"testing"

	"annals/api"
	"annals/index"
	"annals/record"
	"annals/segment"
)

// slowFrame reads the body of a frame at a place, and where it ends: it is a frame if the body's own frame stands there.
func slowFrame(b []byte, at int) ([]byte, int, bool) {
	if at < 0 || at > len(b) {
		return nil, 0, false
	}
	n, k := binary.Uvarint(b[at:])
	if k <= 0 || n == 0 || n > api.MaxFrame || n > uint64(len(b)-at-k) {
		return nil, 0, false
	}
	body := b[at+k : at+k+int(n)]
	f := frame(body)
	return body, at + len(f), bytes.HasPrefix(b[at:], f)
}

// slowGood reads the good frame at a place.
func slowGood(v int, b []byte, at int) (api.Record, int, bool) {
	body, end, ok := slowFrame(b, at)
	if !ok || body[0] != 'R' {
		return api.Record{}, 0, false
	}
	r, e := record.Decode(v, bytes.Clone(body[1:]))
	return r, end, e == api.OK
}

// slowRun is the good run of a segment that has a header.
func slowRun(b []byte) api.Scan {
	s := api.Scan{V: int(b[4]), End: 5}
	for r, end, ok := slowGood(s.V, b, 5); ok; r, end, ok = slowGood(s.V, b, end) {
		s.Recs = append(s.Recs, r)
		s.At = append(s.At, s.End)
		s.End = end
	}
	s.Index = entriesOf(s.Recs, s.At)
	return s
}

// slowHead is what all readers ask first.
func slowHead(b []byte) api.Errno {
	switch {
	case len(b) > 524288:
		return api.ErrLong
	case len(b) < 5 || string(b[:4]) != "ANLS":
		return api.ErrHead
	case b[4] != 1 && b[4] != 2 && b[4] != 3:
		return api.ErrVersion
	}
	return api.OK
}

// slowSeal is what Read and Find ask of the footer: its place, its number, its index.
func slowSeal(b []byte) (int, uint64, []api.Entry, api.Errno) {
	if e := slowHead(b); e != api.OK {
		return 0, 0, nil, e
	}
	if len(b) < 13 || string(b[len(b)-4:]) != "SEAL" {
		return 0, 0, nil, api.ErrUnsealed
	}
	at := int(binary.LittleEndian.Uint32(b[len(b)-8:]))
	if at < 5 || at > len(b)-8 {
		return 0, 0, nil, api.ErrFooter
	}
	body, end, ok := slowFrame(b, at)
	if !ok || end != len(b)-8 || body[0] != 'X' {
		return 0, 0, nil, api.ErrFooter
	}
	n, k := binary.Uvarint(body[1:])
	if k <= 0 || !bytes.HasPrefix(body[1:], number(n)) {
		return 0, 0, nil, api.ErrFooter
	}
	m, e := index.Decode(bytes.Clone(body[1+k:]))
	if e != api.OK {
		return 0, 0, nil, api.ErrFooter
	}
	var entries []api.Entry
	for _, saga := range m.Keys() {
		entries = append(entries, api.Entry{Saga: saga, At: m.Get(saga)})
	}
	return at, n, entries, api.OK
}

func slowRead(b []byte) (api.Scan, api.Errno) {
	at, n, entries, e := slowSeal(b)
	if e != api.OK {
		return api.Scan{}, e
	}
	s := slowRun(b)
	if s.End != at {
		return api.Scan{}, api.ErrRecord
	}
	if n != uint64(len(s.Recs)) || !slices.EqualFunc(entries, s.Index, sameEntry) {
		return api.Scan{}, api.ErrIndex
	}
	s.Sealed = true
	return s, api.OK
}

func slowScan(b []byte) (api.Scan, api.Errno) {
	if e := slowHead(b); e != api.OK {
		return api.Scan{}, e
	}
	s := slowRun(b)
	_, e := slowRead(b)
	s.Sealed = e == api.OK
	return s, api.OK
}

func slowFooter(b []byte) ([]byte, api.Errno) {
	if e := slowHead(b); e != api.OK {
		return nil, e
	}
	s := slowRun(b)
	if s.End != len(b) {
		return nil, api.ErrRecord
	}
	return under(b, uint64(len(s.Recs)), s.Index...)[len(b):], api.OK
}

func slowFind(b []byte, saga int) ([]api.Record, api.Errno) {
	foot, _, entries, e := slowSeal(b)
	if e != api.OK {
		return nil, e
	}
	if saga < 1 {
		return nil, api.ErrArg
	}
	var out []api.Record
	for _, x := range entries {
		for _, at := range x.At {
			if x.Saga != saga {
				continue
			}
			r, end, ok := slowGood(int(b[4]), b, at)
			if !ok || at < 5 || end > foot {
				return nil, api.ErrRecord
			}
			if r.Saga != saga {
				return nil, api.ErrIndex
			}
			out = append(out, r)
		}
	}
	return out, api.OK
}

// hold asks all readers about the bytes, holds their answers against the slow reading, and against each other: what Read reads, Scan tells too, Find finds saga by saga, and the three writers write again. It counts the errors of Read and of Find.
func hold(t *testing.T, b []byte, seen map[api.Errno]int) {
	t.Helper()
	want, e := slowScan(b)
	if got, e2 := segment.Scan(b); e2 != e || !sameScan(got, want) {
		t.Fatalf("Scan(% x) = %+v, %d, not %+v, %d", b, got, e2, want, e)
	}
	foot, e := slowFooter(b)
	if got, e2 := segment.Footer(b); e2 != e || !bytes.Equal(got, foot) {
		t.Fatalf("Footer(% x) = % x, %d, not % x, %d", b, got, e2, foot, e)
	}
	read, e := slowRead(b)
	got, e2 := segment.Read(b)
	if e2 != e || !sameScan(got, read) {
		t.Fatalf("Read(% x) = %+v, %d, not %+v, %d", b, got, e2, read, e)
	}
	seen[e]++
	for _, saga := range append(sagas(), 0, -1, 4, 129) {
		recs, e := slowFind(b, saga)
		if got, e2 := segment.Find(b, saga); e2 != e || !sameRecs(got, recs) {
			t.Fatalf("Find(% x, %d) = %+v, %d, not %+v, %d", b, saga, got, e2, recs, e)
		}
		seen[1000+e]++
	}
	if e == api.OK {
		agree(t, b, got)
		again(t, b, got)
	}
}

// agree holds the readers of a sealed segment against one another.
func agree(t *testing.T, b []byte, s api.Scan) {
	t.Helper()
	if scan, e := segment.Scan(b); e != api.OK || !sameScan(scan, s) {
		t.Fatalf("% x: Scan tells %+v, %d, Read %+v", b, scan, e, s)
	}
	n := 0
	for _, x := range s.Index {
		var own []api.Record
		for _, r := range s.Recs {
			if r.Saga == x.Saga {
				own = append(own, r)
			}
		}
		found, e := segment.Find(b, x.Saga)
		if e != api.OK || !sameRecs(found, own) {
			t.Fatalf("% x: Find of %d tells %+v, %d, Read %+v", b, x.Saga, found, e, own)
		}
		n += len(own)
	}
	if n != len(s.Recs) {
		t.Fatalf("% x: the index has %d records of %d", b, n, len(s.Recs))
	}
}

// again writes what was read.
func again(t *testing.T, b []byte, s api.Scan) {
	t.Helper()
	w := written(t, s.V, s.Recs...)
	if !bytes.Equal(w, b) {
		t.Fatalf("% x is written as % x", b, w)
	}
}

// written is the sealed segment of records, by the package's own calls.
func written(t *testing.T, v int, recs ...api.Record) []byte {
	t.Helper()
	h, e := segment.Start(v)
	p, e2 := segment.Pack(v, recs...)
	b := join(h, p)
	f, e3 := segment.Footer(b)
	if e != api.OK || e2 != api.OK || e3 != api.OK {
		t.Fatalf("%d, %d, %d", e, e2, e3)
	}
	return join(b, f)
}

// Promises 7.3 to 7.8 and 7.10: valid records of one version are written as the chapter says, and read again, by Read as they were and by Find saga by saga.
func TestThereAndBack(t *testing.T) {
	r := rand.New(rand.NewSource(2))
	seen := map[api.Errno]int{}
	for range 1500 {
		v := 1 + r.Intn(3)
		recs := drawAll(r, v)
		b := written(t, v, recs...)
		if !bytes.Equal(b, sealed(v, recs...)) {
			t.Fatalf("%+v are written as % x", recs, b)
		}
		at, end := places(recs...)
		s, e := segment.Read(b)
		if e != api.OK || !sameScan(s, api.Scan{V: v, End: end, Sealed: true, Recs: recs, At: at, Index: entriesOf(recs, at)}) {
			t.Fatalf("%+v are read as %+v, %d", recs, s, e)
		}
		hold(t, b, seen)
	}
}

// wrongEntries is an index that is nearly right.
func wrongEntries(r *rand.Rand, s api.Scan, foot int) []api.Entry {
	var out []api.Entry
	for _, x := range s.Index {
		out = append(out, api.Entry{Saga: x.Saga, At: slices.Clone(x.At)})
	}
	if len(out) == 0 {
		return []api.Entry{{Saga: pick(r, sagas()...), At: []int{pick(r, 0, 4, 5, foot, foot+1, 1<<63-1)}}}
	}
	i := r.Intn(len(out))
	k := r.Intn(len(out[i].At))
	switch r.Intn(6) {
	case 0:
		out = slices.Delete(out, i, i+1)
	case 1:
		out[i].Saga = pick(r, sagas()...)
	case 2:
		out[i].At[k] = pick(r, 0, 1, 4, 5, out[i].At[k]+1, out[i].At[k]-1, foot, foot+1, foot+9, 1<<63-1)
	case 3:
		out[i].At[k] = s.At[r.Intn(len(s.At))]
	case 4:
		if len(out[i].At) > 1 {
			out[i].At = slices.Delete(out[i].At, k, k+1)
		}
	case 5:
		out = append(out, api.Entry{Saga: pick(r, sagas()...), At: []int{pick(r, s.At...)}})
	}
	for i := range out {
		slices.Sort(out[i].At)
		out[i].At = slices.Compact(out[i].At)
	}
	slices.SortFunc(out, func(a, b api.Entry) int {
		if a.Saga < b.Saga {
			return -1
		}
		return 1
	})
	return slices.CompactFunc(out, func(a, b api.Entry) bool { return a.Saga == b.Saga })
}

// badFrame is a frame, but not one of a record of every version.
func badFrame(r *rand.Rand) []byte {
	return pick(r, frame([]byte("R")), frame([]byte("X\x00\x00")), frame([]byte("r\x01\x07\x02\x01")), frame([]byte("R\x01\x07")), frame([]byte("R\x01\x07\x02\x01\x05\x09")), frame([]byte("R\x01\x07\x02\x01\x07\x02")), frame([]byte("Z")), frame(make([]byte, 200)))
}

// spoil makes of a sealed segment's parts one that is not, or hardly.
func spoil(r *rand.Rand, v int, recs []api.Record) []byte {
	b := open(v, recs...)
	whole := sealed(v, recs...)
	at, end := places(recs...)
	s := api.Scan{Recs: recs, At: at, Index: entriesOf(recs, at)}
	switch r.Intn(11) {
	case 0:
		whole[r.Intn(len(whole))] ^= 1 << r.Intn(8)
	case 1:
		whole[r.Intn(len(whole))] = pick[byte](r, 0, 1, 'R', 'X', 0xa5, 0x80, 0xff)
	case 2:
		whole = whole[:r.Intn(len(whole)+1)]
	case 3:
		whole = append(whole, make([]byte, 1+r.Intn(9))...)
	case 4:
		return under(b, uint64(len(recs)), wrongEntries(r, s, end)...)
	case 5:
		return under(b, pick(r, 0, 1, uint64(len(recs)+1), uint64(r.Intn(9)), 1<<63, 1<<64-1), s.Index...)
	case 6:
		b = append(b, badFrame(r)...)
		return under(b, uint64(len(recs)+r.Intn(2)), s.Index...)
	case 7:
		cut := 5 + r.Intn(len(b)-4)
		b = slices.Insert(b, cut, badFrame(r)...)
		return under(b, uint64(len(recs)), s.Index...)
	case 8:
		whole[4] = byte(r.Intn(5))
	case 9:
		body := append([]byte(pick(r, "X", "X", "R", "x", "")), pick(r, nil, number(uint64(len(recs))), []byte{0x80, 0}, []byte{0x80})...)
		body = join(body, pick(r, indexBytes(s.Index...), nil, []byte{0, 0}, []byte{1}, []byte{1, 0}), []byte("\x00")[:r.Intn(2)])
		if len(body) == 0 {
			body = []byte{0}
		}
		return join(b, frame(body), trailer(len(b)))
	case 10:
		copy(whole[len(whole)-8:], trailer(pick(r, 0, 4, 5, end-1, end+1, len(whole)-8, len(whole)-7, len(whole), pick(r, append(at, 6)...), 1<<31, 1<<32-1)))
	}
	return whole
}

// Promises 7.3 to 7.6, 7.8 and 7.10: segments that are broken in all kinds of ways are told as the chapter says, and whatever Read reads has one writing.
func TestBroken(t *testing.T) {
	r := rand.New(rand.NewSource(3))
	seen := map[api.Errno]int{}
	for range 25000 {
		v := 1 + r.Intn(3)
		hold(t, spoil(r, v, drawAll(r, v)), seen)
	}
	for _, e := range []api.Errno{api.OK, api.ErrHead, api.ErrVersion, api.ErrUnsealed, api.ErrFooter, api.ErrRecord, api.ErrIndex} {
		if seen[e] == 0 || seen[1000+e] == 0 {
			t.Errorf("error %d: %d times of Read, %d of Find", e, seen[e], seen[1000+e])
		}
	}
	if seen[1000+api.ErrArg] == 0 {
		t.Error("Find answered no ErrArg")
	}
}

// Promise 7.8: what is but one bit away from a sealed segment is none, unless it is the version's byte and all records are of both versions.
func TestEveryBit(t *testing.T) {
	seen := map[api.Errno]int{}
	recs := []api.Record{{V: 2, Kind: api.KStart, Saga: 300, Try: 1}, {V: 2, Kind: api.KDone, Saga: 2, Data: []byte("RX")}, {V: 2, Kind: api.KEnd, Saga: 300, At: 3}}
	b := sealed(2, recs...)
	for i := range 8 * len(b) {
		b[i/8] ^= 1 << (i % 8)
		hold(t, b, seen)
		_, e := segment.Read(b)
		if (e == api.OK) != (i == 8*4) {
			t.Errorf("bit %d turned over: %d", i, e)
		}
		b[i/8] ^= 1 << (i % 8)
	}
}

// Promise 7.8: any bytes behind a header are told as the chapter says.
func TestShortBytes(t *testing.T) {
	seen := map[api.Errno]int{}
	for a := range 256 {
		hold(t, []byte{byte(a)}, seen)
		hold(t, append([]byte("ANLS"), byte(a)), seen)
		for c := range 256 {
			hold(t, append([]byte("ANLS\x02"), byte(a), byte(c)), seen)
		}
	}
	r := rand.New(rand.NewSource(4))
	for range 5000 {
		b := make([]byte, r.Intn(40))
		r.Read(b)
		hold(t, b, seen)
		hold(t, append(header(1+r.Intn(3)), b...), seen)
		hold(t, join(header(1+r.Intn(3)), b, []byte("SEAL")), seen)
		hold(t, join(header(1+r.Intn(3)), b, trailer(5+r.Intn(len(b)+1))), seen)
		hold(t, join(header(1+r.Intn(3)), frame([]byte("X"), b), trailer(5)), seen)
		hold(t, join(header(1+r.Intn(3)), frame([]byte("R"), b)), seen)
	}
}
