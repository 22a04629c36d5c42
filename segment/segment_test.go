package segment_test

import (
	"bytes"
	"encoding/binary"
	"encoding/hex"
	"hash/crc32"
	"math"
	"math/rand"
	"slices"
	"strings"
	"testing"

	"annals/api"
	"annals/record"
	"annals/segment"
)

// The calls, with the signatures that the chapter lists.
var (
	_ func(int) ([]byte, api.Errno)                = segment.Start
	_ func(int, ...api.Record) ([]byte, api.Errno) = segment.Pack
	_ func([]byte) ([]byte, api.Errno)             = segment.Footer
	_ func([]byte) (api.Scan, api.Errno)           = segment.Read
	_ func([]byte) (api.Scan, api.Errno)           = segment.Scan
	_ func([]byte, int) ([]api.Record, api.Errno)  = segment.Find
)

// The chapter's example: V 1, Kind 7, Saga 1.
const (
	head1  = "41 4e 4c 53 01"
	frame1 = "05 52 01 07 02 01 4f 8f 1e 5b a5"
	foot0  = "03 58 00 00 fa 0f 5e 51 a5 05 00 00 00 53 45 41 4c"
	foot1  = "06 58 01 01 01 01 05 f2 81 0e f3 a5 10 00 00 00 53 45 41 4c"
)

func end1() api.Record { return api.Record{V: 1, Kind: api.KEnd, Saga: 1} }

// unhex is the bytes that a text of hexadecimal digits tells.
func unhex(s string) []byte {
	b, err := hex.DecodeString(strings.ReplaceAll(s, " ", ""))
	if err != nil {
		panic(err)
	}
	return b
}

// join is byte strings behind one another.
func join(parts ...[]byte) []byte { return bytes.Join(parts, nil) }

// number is a number as chapter 1 writes it.
func number(n uint64) []byte { return binary.AppendUvarint(nil, n) }

// frame is a body's frame as chapter 1 writes it, made by the library's own sum.
func frame(parts ...[]byte) []byte {
	body := join(parts...)
	b := append(number(uint64(len(body))), body...)
	return append(binary.LittleEndian.AppendUint32(b, crc32.ChecksumIEEE(b)), api.Mark)
}

// frameOf is a valid record's frame.
func frameOf(r api.Record) []byte {
	b, e := record.Encode(r)
	if e != api.OK {
		panic(e)
	}
	return frame([]byte("R"), b)
}

// trailer is what stands behind a footer's frame that begins at a place.
func trailer(at int) []byte {
	return append(binary.LittleEndian.AppendUint32(nil, uint32(at)), "SEAL"...)
}

// indexBytes is an index as chapter 5 writes it, of entries that rise.
func indexBytes(entries ...api.Entry) []byte {
	b := number(uint64(len(entries)))
	saga := 0
	for _, x := range entries {
		b = append(b, number(uint64(x.Saga-saga))...)
		b = append(b, number(uint64(len(x.At)))...)
		at := 0
		for _, p := range x.At {
			b = append(b, number(uint64(p-at))...)
			at = p
		}
		saga = x.Saga
	}
	return b
}

// header is the first five bytes.
func header(v int) []byte { return append([]byte("ANLS"), byte(v)) }

// open is a header and the frames of records.
func open(v int, recs ...api.Record) []byte {
	b := header(v)
	for _, r := range recs {
		b = append(b, frameOf(r)...)
	}
	return b
}

// under is b with a footer of that number and index behind it, right or wrong.
func under(b []byte, n uint64, entries ...api.Entry) []byte {
	return join(b, frame([]byte("X"), number(n), indexBytes(entries...)), trailer(len(b)))
}

// places are where the frames of records begin, and where the last one ends.
func places(recs ...api.Record) ([]int, int) {
	at := 5
	var out []int
	for _, r := range recs {
		out = append(out, at)
		at += len(frameOf(r))
	}
	return out, at
}

// entriesOf is the index of records: for each saga that one has, by rising saga, where its records begin.
func entriesOf(recs []api.Record, at []int) []api.Entry {
	var sagas []int
	for _, r := range recs {
		sagas = append(sagas, r.Saga)
	}
	slices.Sort(sagas)
	var out []api.Entry
	for _, saga := range slices.Compact(sagas) {
		x := api.Entry{Saga: saga}
		for i, r := range recs {
			if r.Saga == saga {
				x.At = append(x.At, at[i])
			}
		}
		out = append(out, x)
	}
	return out
}

// sealed is the sealed segment of records, as the chapter says its bytes.
func sealed(v int, recs ...api.Record) []byte {
	at, _ := places(recs...)
	return under(open(v, recs...), uint64(len(recs)), entriesOf(recs, at)...)
}

func sameRecs(a, b []api.Record) bool { return slices.EqualFunc(a, b, record.Same) }

func sameEntry(a, b api.Entry) bool { return a.Saga == b.Saga && slices.Equal(a.At, b.At) }

func sameScan(a, b api.Scan) bool {
	return a.V == b.V && a.End == b.End && a.Sealed == b.Sealed && sameRecs(a.Recs, b.Recs) && slices.Equal(a.At, b.At) && slices.EqualFunc(a.Index, b.Index, sameEntry)
}

// pick is one of several.
func pick[T any](r *rand.Rand, from ...T) T { return from[r.Intn(len(from))] }

// sagas are few, so that a saga has several records, and of all lengths.
func sagas() []int { return []int{1, 2, 3, 127, 128, 300, 1 << 40, api.MaxID - 1, api.MaxID} }

func drawData(r *rand.Rand) []byte {
	b := make([]byte, pick(r, 0, 0, 1, 3, 20, 127, 128, 300))
	r.Read(b)
	return b
}

// draw is a valid record of a version.
func draw(r *rand.Rand, v int) api.Record {
	x := api.Record{V: v, Kind: 1 + r.Intn(7), Saga: pick(r, sagas()...)}
	if v > 1 {
		x.At = pick(r, 0, 1, 127, 128, api.MaxID)
	}
	if x.Kind != api.KEnd && x.Kind != api.KBegin {
		x.Step = r.Intn(32)
	}
	switch x.Kind {
	case api.KBegin:
		if v == 1 {
			x.Step, x.Data = 1+r.Intn(32), []byte("buy")
			return x
		}
		x.Count, x.Name, x.Data = 1+r.Intn(32), pick(r, "buy", "\u00e9t\u00e9", strings.Repeat("z", 48)), drawData(r)
		if v == 3 {
			x.Pivot = r.Intn(x.Count + 1)
		}
	case api.KStart, api.KUndo:
		if v > 1 {
			x.Try = 1 + r.Intn(1000)
		}
	case api.KDone, api.KUndone, api.KFail:
		x.Data = drawData(r)
	}
	if v > 1 && x.Kind == api.KFail {
		x.Last = r.Intn(2)
	}
	if v == 3 && x.Kind == api.KFail {
		x.Code = pick(r, 0, -1, 1, math.MinInt, math.MaxInt)
	}
	if v == 3 && x.Kind == api.KEnd {
		x.Code = r.Intn(3)
	}
	return x
}

// drawAll is some valid records of a version.
func drawAll(r *rand.Rand, v int) []api.Record {
	var out []api.Record
	for range r.Intn(7) {
		out = append(out, draw(r, v))
	}
	return out
}

// Promise 7.1: the header of each version, and no other.
func TestStart(t *testing.T) {
	for v, want := range map[int]string{1: head1, 2: "41 4e 4c 53 02", 3: "41 4e 4c 53 03"} {
		if b, e := segment.Start(v); e != api.OK || !bytes.Equal(b, unhex(want)) {
			t.Errorf("Start(%d) = % x, %d", v, b, e)
		}
	}
	for _, v := range []int{0, 4, -1, 5, 255, 256, 257, 258, 259, 1 << 32, 1<<32 + 1, math.MinInt, math.MinInt + 1, math.MaxInt} {
		if b, e := segment.Start(v); e != api.ErrVersion || len(b) != 0 {
			t.Errorf("Start(%d) = % x, %d", v, b, e)
		}
	}
}

// Promise 7.2: the chapter's examples, and the errors in their order.
func TestPack(t *testing.T) {
	end := func(v, saga int) api.Record { return api.Record{V: v, Kind: api.KEnd, Saga: saga} }
	extra := api.Record{V: 1, Kind: api.KEnd, Saga: 1, At: 1}
	rows := []struct {
		name string
		v    int
		recs []api.Record
		want string
		e    api.Errno
	}{
		{"no record", 1, nil, "", api.OK},
		{"one", 1, []api.Record{end1()}, frame1, api.OK},
		{"two", 1, []api.Record{end1(), end1()}, frame1 + frame1, api.OK},
		{"no version", 0, []api.Record{end1()}, "", api.ErrVersion},
		{"version 4", 4, []api.Record{end(4, 1)}, "", api.ErrVersion},
		{"no version, no record", -1, nil, "", api.ErrVersion},
		{"no version ahead of a record's error", 4, []api.Record{end(1, 0)}, "", api.ErrVersion},
		{"of another version", 2, []api.Record{end1()}, "", api.ErrMixed},
		{"of a higher version", 1, []api.Record{end(2, 1)}, "", api.ErrMixed},
		{"without an id", 1, []api.Record{end(1, 0)}, "", api.ErrID},
		{"of another version and without an id", 2, []api.Record{end(1, 0)}, "", api.ErrID},
		{"of no version", 2, []api.Record{end(0, 1)}, "", api.ErrVersion},
		{"of version 4", 3, []api.Record{end(4, 1)}, "", api.ErrVersion},
		{"no kind", 1, []api.Record{{V: 1, Saga: 1}}, "", api.ErrKind},
		{"a field too many", 1, []api.Record{extra}, "", api.ErrExtra},
		{"data above the bound", 1, []api.Record{{V: 1, Kind: api.KDone, Saga: 1, Data: make([]byte, api.MaxData+1)}}, "", api.ErrData},
		{"a name that is none", 2, []api.Record{{V: 2, Kind: api.KBegin, Saga: 1, Count: 1, Name: "2b"}}, "", api.ErrLabel},
		{"a step out of its bounds", 2, []api.Record{{V: 2, Kind: api.KDone, Saga: 1, Step: 32}}, "", api.ErrBound},
		{"the first decides: mixed", 1, []api.Record{end1(), end(2, 1), end(1, 0)}, "", api.ErrMixed},
		{"the first decides: the record's own", 1, []api.Record{end1(), end(1, 0), end(2, 1)}, "", api.ErrID},
		{"the last is wrong", 1, []api.Record{end1(), end1(), extra}, "", api.ErrExtra},
	}
	for _, row := range rows {
		b, e := segment.Pack(row.v, row.recs...)
		if e != row.e || !bytes.Equal(b, unhex(row.want)) {
			t.Errorf("%s: % x, %d", row.name, b, e)
		}
	}
}

// Promise 7.2: the frames of any records are those that the chapter tells, in their order; there is no bound on them.
func TestPackAll(t *testing.T) {
	r := rand.New(rand.NewSource(1))
	for range 3000 {
		v := 1 + r.Intn(3)
		recs := drawAll(r, v)
		b, e := segment.Pack(v, recs...)
		if e != api.OK || !bytes.Equal(b, open(v, recs...)[5:]) {
			t.Fatalf("%+v is packed as % x, %d", recs, b, e)
		}
	}
	great := api.Record{V: 2, Kind: api.KDone, Saga: api.MaxID, Step: 31, At: api.MaxID, Data: make([]byte, api.MaxData)}
	one := frameOf(great)
	b, e := segment.Pack(2, slices.Repeat([]api.Record{great}, 100)...)
	if e != api.OK || !bytes.Equal(b, bytes.Repeat(one, 100)) || len(b) <= api.MaxFrame {
		t.Errorf("100 great records: %d bytes, %d", len(b), e)
	}
}
