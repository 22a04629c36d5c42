package archive_test

import (
	"encoding/binary"
	"errors"
	"fmt"
	"hash/crc32"
	"math/rand"
	"slices"
	"strconv"
	"strings"
	"testing"

	"annals/api"
	"annals/archive"
	"annals/disk"
	"annals/lift"
	"annals/record"
	"annals/store"
	"annals/wire"
)

const maxArchive = 8388608

func pick[T any](r *rand.Rand, list ...T) T { return list[r.Intn(len(list))] }

func must(t *testing.T, err error) {
	t.Helper()
	if err != nil {
		t.Fatal(err)
	}
}

func sameRecs(a, b []api.Record) bool { return slices.EqualFunc(a, b, record.Same) }

func sameArchive(a, b api.Archive) bool { return a.Top == b.Top && sameRecs(a.Recs, b.Recs) }

// framed is a frame, made without wire.
func framed(body ...byte) []byte {
	out := append(binary.AppendUvarint(nil, uint64(len(body))), body...)
	out = binary.LittleEndian.AppendUint32(out, crc32.ChecksumIEEE(out))
	return append(out, 0xa5)
}

// first is an archive's head and first frame.
func first(top, count uint64) []byte {
	body := binary.AppendUvarint(binary.AppendUvarint([]byte("T"), top), count)
	return slices.Concat([]byte("ANAR\x01"), framed(body...))
}

// middle is the frames of records.
func middle(recs ...api.Record) []byte {
	var out []byte
	for _, r := range recs {
		b, e := record.Encode(r)
		if e != api.OK {
			panic("a record that is not valid")
		}
		out = append(out, framed(slices.Concat([]byte{'R', byte(r.V)}, b)...)...)
	}
	return out
}

// ended is bytes with the last frame behind them.
func ended(parts ...[]byte) []byte {
	b := slices.Concat(parts...)
	return append(b, framed(binary.LittleEndian.AppendUint32([]byte("E"), crc32.ChecksumIEEE(b))...)...)
}

// packed is the bytes of an archive by the chapter's words.
func packed(top int, recs ...api.Record) []byte {
	return ended(first(uint64(top), uint64(len(recs))), middle(recs...))
}

// readTwin is the second reading of Read. What the first frame holds is written again and held against what stands there.
func readTwin(b []byte) (api.Archive, api.Errno, int) {
	bad := func(e api.Errno, at int) (api.Archive, api.Errno, int) { return api.Archive{}, e, at }
	if len(b) > maxArchive {
		return bad(api.ErrLong, maxArchive)
	}
	if !strings.HasPrefix(string(b), "ANAR\x01") {
		return bad(api.ErrArchive, 0)
	}
	body, at, e := wire.ReadFrame(b, 5)
	if e != api.OK {
		return bad(e, 5)
	}
	top, n := binary.Uvarint(body[1:])
	count, m := binary.Uvarint(body[min(len(body), 1+max(n, 0)):])
	if n <= 0 || m <= 0 || top > 1<<63-1 || string(slices.Concat([]byte("ANAR\x01"), framed(body...))) != string(first(top, count)) {
		return bad(api.ErrArchive, 5)
	}
	out := api.Archive{Top: int(top)}
	for {
		body, next, e := wire.ReadFrame(b, at)
		switch last := uint64(len(out.Recs)) == count; {
		case e != api.OK:
			return bad(e, at)
		case last && next < len(b) && string(b[at:next]) == string(ended(b[:at])[at:]):
			return bad(api.ErrEnding, next)
		case last && string(b) == string(ended(b[:at])):
			return out, api.OK, 0
		case last == (body[0] == 'R'):
			return bad(api.ErrCount, at)
		case last:
			return bad(api.ErrArchive, at)
		case len(body) < 2 || body[1] < 1 || body[1] > 3:
			return bad(api.ErrVersion, at)
		}
		r, e := record.Decode(int(body[1]), body[2:])
		if e != api.OK {
			return bad(e, at)
		}
		out.Recs = append(out.Recs, r)
		at = next
	}
}

// pieceOf is a piece, made without wire.
func pieceOf(sum uint32, number, count uint64, part ...byte) []byte {
	body := binary.LittleEndian.AppendUint32([]byte("P"), sum)
	body = binary.AppendUvarint(binary.AppendUvarint(body, number), count)
	return framed(slices.Concat(body, part)...)
}

// cutTwin is all pieces of bytes.
func cutTwin(b []byte, size int) [][]byte {
	parts := slices.Collect(slices.Chunk(b, size))
	if len(b) == 0 {
		parts = [][]byte{nil}
	}
	var out [][]byte
	for k, p := range parts {
		out = append(out, pieceOf(crc32.ChecksumIEEE(b), uint64(k), uint64(len(parts)), p...))
	}
	return out
}

// told is what a piece tells; some: it is one.
type told struct {
	sum           uint32
	number, count uint64
	part          string
	some          bool
}

// tells is the second reading of a piece: it is one, if it can be written again.
func tells(b []byte) told {
	_, n := binary.Uvarint(b)
	if n <= 0 || len(b) < n+5+7 {
		return told{}
	}
	body := b[n : len(b)-5]
	p := told{sum: binary.LittleEndian.Uint32(body[1:])}
	var k, l int
	p.number, k = binary.Uvarint(body[5:])
	if k <= 0 {
		return told{}
	}
	p.count, l = binary.Uvarint(body[5+k:])
	if l <= 0 {
		return told{}
	}
	p.part = string(body[5+k+l:])
	p.some = p.count <= 1024 && p.number < p.count && len(body) <= 1048576 && string(pieceOf(p.sum, p.number, p.count, []byte(p.part)...)) == string(b)
	return p
}

// joinTwin is the second reading of Join: all pairs of pieces are held against each other.
func joinTwin(pieces [][]byte) ([]byte, api.Errno) {
	if len(pieces) == 0 {
		return nil, api.ErrGap
	}
	var list []told
	for _, b := range pieces {
		list = append(list, tells(b))
	}
	if slices.ContainsFunc(list, func(p told) bool { return !p.some }) {
		return nil, api.ErrPiece
	}
	for _, p := range list {
		for _, q := range list {
			if p.sum != q.sum || p.count != q.count || p.number == q.number && p.part != q.part {
				return nil, api.ErrPieces
			}
		}
	}
	whole := ""
	for k := range list[0].count {
		i := slices.IndexFunc(list, func(p told) bool { return p.number == k })
		if i < 0 {
			return nil, api.ErrGap
		}
		whole += list[i].part
	}
	if len(whole) > maxArchive {
		return nil, api.ErrLong
	}
	if crc32.ChecksumIEEE([]byte(whole)) != list[0].sum {
		return nil, api.ErrPiece
	}
	return []byte(whole), api.OK
}

// drawRec is a valid record of a version from 1 to v.
func drawRec(r *rand.Rand, v int) api.Record {
	x := api.Record{V: 1 + r.Intn(v), Kind: 1 + r.Intn(7), Saga: pick(r, 1, 2, 3, 127, 128, 1<<40, api.MaxID)}
	fields := record.Fields(x.V, x.Kind)
	has := func(tag int) bool { return slices.Contains(fields, tag) }
	for _, f := range []struct {
		tag, least, more int
		to               *int
	}{{3, 1, 31, &x.Step}, {4, 1, 1000, &x.Try}, {5, 0, 1 << 50, &x.At}, {6, 0, 2, &x.Last}, {7, 0, 3, &x.Code}, {8, 1, 32, &x.Count}} {
		if has(f.tag) {
			*f.to = f.least + r.Intn(f.more)
		}
	}
	if x.Kind == api.KFail && x.V == 3 {
		x.Code = int(r.Uint64())
	}
	if has(9) {
		x.Pivot = r.Intn(x.Count + 1)
	}
	if has(10) {
		x.Name = pick(r, "pay", "a", "bücher")
	}
	if has(11) {
		x.Data = []byte(pick(r, "pay", "x", strings.Repeat("d", r.Intn(40)+1)))
	}
	return x
}

func drawRecs(r *rand.Rand, v, n int) []api.Record {
	var out []api.Record
	for range n {
		out = append(out, drawRec(r, v))
	}
	return out
}

func drawArchive(r *rand.Rand) api.Archive {
	return api.Archive{Top: pick(r, 0, 1, 127, 128, 1<<40, api.MaxID), Recs: drawRecs(r, 3, r.Intn(8))}
}

func drawBytes(r *rand.Rand, n int) []byte {
	out := make([]byte, n)
	r.Read(out)
	return out
}

// The records that the tests draw are valid.
func TestDrawnRecords(t *testing.T) {
	r := rand.New(rand.NewSource(170))
	for range 2000 {
		if x := drawRec(r, 3); record.Check(x) != api.OK {
			t.Fatalf("%+v: %d", x, record.Check(x))
		}
	}
}

// pack is the bytes of an archive that is not refused.
func pack(t *testing.T, a api.Archive) []byte {
	t.Helper()
	b, e := archive.Pack(a)
	if e != api.OK {
		t.Fatalf("%+v: %d", a, e)
	}
	return b
}

// pieces is all that Cut gives.
func pieces(t *testing.T, b []byte, size int) [][]byte {
	t.Helper()
	it, e := archive.Cut(b, size)
	if e != api.OK || it == nil {
		t.Fatalf("%d bytes in pieces of %d: %d", len(b), size, e)
	}
	return slices.Collect(it)
}

func newDisk(t *testing.T, quota int, files ...api.File) *disk.Disk {
	t.Helper()
	d, e := disk.Load(quota, files)
	if e != api.OK {
		t.Fatal(e)
	}
	return d
}

func file(name string, n int) api.File { return api.File{Name: name, Data: make([]byte, n)} }

func listOf(t *testing.T, s *store.Store) []api.Record {
	t.Helper()
	out, err := s.Records()
	must(t, err)
	return out
}

// lifted is records in the version v.
func lifted(t *testing.T, v int, recs []api.Record) []api.Record {
	t.Helper()
	out, at, e := lift.UpAll(v, recs...)
	if e != api.OK {
		t.Fatalf("%+v is not lifted to %d: %d", recs[at], v, e)
	}
	return out
}

// raw is files as a text.
func raw(files []api.File) string {
	var out strings.Builder
	for _, f := range files {
		out.WriteString("\n" + f.Name + " " + strconv.Itoa(len(f.Data)) + " ")
		out.Write(f.Data)
	}
	return out.String()
}

// sight is all that can be seen of a disk, the crashes that it may leave too.
func sight(d *disk.Disk) string {
	out := fmt.Sprint(d.Down(), d.Free(), d.List()) + raw(d.Files())
	for keep := range 9 {
		out += raw(d.Crash(keep)) + raw(d.Crash(keep, slices.Repeat([]api.Cut{{Keep: 3, Zero: 2}}, 150)...))
	}
	return out
}

// view is all that can be seen of a store and its disk.
func view(d *disk.Disk, s *store.Store) string {
	if s == nil {
		return sight(d)
	}
	return sight(d) + fmt.Sprint(s.Stat(), s.Segments())
}

// chain is an error with all that is wrapped in it, once the outermost was held against what is promised of each; the empty text of none.
func chain(t *testing.T, err error) string {
	t.Helper()
	if err == nil {
		return ""
	}
	f, is := err.(*archive.Fault)
	if !is || f == nil || f.Err == nil || errors.Unwrap(err) != f.Err || err.Error() != f.Why+": "+f.Err.Error() {
		t.Fatalf("%v is no fault of this layer", err)
	}
	return f.Why + " " + beneath(t, f.Err)
}

// beneath is what stands in a fault of this layer: a number, or a fault of the store.
func beneath(t *testing.T, err error) string {
	t.Helper()
	switch x := err.(type) {
	case nil:
		return ""
	case api.Errno:
		if x == api.OK {
			t.Fatal("an error that is none")
		}
		return strconv.Itoa(int(x))
	case *store.Fault:
		return fmt.Sprintf("store %s %q %d %d", x.Op, x.Name, x.At, x.Err)
	}
	t.Fatalf("%T: %v", err, err)
	return ""
}
