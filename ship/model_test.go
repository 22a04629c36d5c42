package ship_test

import (
	"encoding/binary"
	"errors"
	"fmt"
	"hash/crc32"
	"math/rand"
	"slices"
	"strconv"
	"strings"
	"testing"

	"annals/api"
	"annals/disk"
	"annals/lift"
	"annals/record"
	"annals/ship"
	"annals/store"
)

const maxNumber = 1099511627776

func pick[T any](r *rand.Rand, list ...T) T { return list[r.Intn(len(list))] }

func must(t *testing.T, err error) {
	t.Helper()
	if err != nil {
		t.Fatal(err)
	}
}

func sameRecs(a, b []api.Record) bool { return slices.EqualFunc(a, b, record.Same) }

func end(v, saga int) api.Record { return api.Record{V: v, Kind: api.KEnd, Saga: saga} }

// ends is end records of the sagas from one to another.
func ends(v, from, to int) []api.Record {
	var out []api.Record
	for saga := from; saga <= to; saga++ {
		out = append(out, end(v, saga))
	}
	return out
}

// framed is a frame, made without wire.
func framed(body ...byte) []byte {
	out := append(binary.AppendUvarint(nil, uint64(len(body))), body...)
	out = binary.LittleEndian.AppendUint32(out, crc32.ChecksumIEEE(out))
	return append(out, 0xa5)
}

// numbered is a letter and numbers behind it.
func numbered(letter byte, list ...uint64) []byte {
	out := []byte{letter}
	for _, n := range list {
		out = binary.AppendUvarint(out, n)
	}
	return out
}

// asked is an ask by the chapter's words.
func asked(epoch, have uint64) []byte { return framed(numbered('Q', epoch, have)...) }

// records is records as they stand in an answer.
func records(recs ...api.Record) []byte {
	var out []byte
	for _, r := range recs {
		b, e := record.Encode(r)
		if e != api.OK {
			panic("a record that is not valid")
		}
		out = append(binary.AppendUvarint(out, uint64(len(b))), b...)
	}
	return out
}

// answered is an answer by the chapter's words, if it may be one.
func answered(epoch, from, total, top int, recs ...api.Record) []byte {
	head := numbered('A', uint64(epoch), uint64(from), uint64(total), uint64(top), uint64(len(recs)))
	return framed(slices.Concat(head, records(recs...))...)
}

// part is the answer that a leader with this list gives from a place on.
func part(epoch, from, top int, list []api.Record) []byte {
	return answered(epoch, from, len(list), top, list[from:min(from+16, len(list))]...)
}

// noted is the bytes of a file FOLLOW.
func noted(epoch int, loading bool) []byte {
	out := framed(numbered('F', uint64(epoch))...)
	if loading {
		out = append(out, 'L')
	}
	return out
}

// message is what an answer tells; some: it is one.
type message struct {
	epoch, from, total, top int
	recs                    []api.Record
	some                    bool
}

// readTwin is the second reading of an answer: it is one, if what it tells may be told, and is written again just so.
func readTwin(b []byte) message {
	_, n := binary.Uvarint(b)
	if n <= 0 || len(b) < n+6 {
		return message{}
	}
	body := b[n : len(b)-5]
	var list [5]uint64
	at := 1
	for i := range list {
		v, n := binary.Uvarint(body[at:])
		if n <= 0 || v > api.MaxID {
			return message{}
		}
		list[i], at = v, at+n
	}
	m := message{epoch: int(list[0]), from: int(list[1]), total: int(list[2]), top: int(list[3])}
	for range min(list[4], 17) {
		size, n := binary.Uvarint(body[at:])
		if n <= 0 || size > uint64(len(body)-at-n) {
			return message{}
		}
		r, e := record.Decode(3, body[at+n:at+n+int(size)])
		if e != api.OK {
			return message{}
		}
		m.recs, at = append(m.recs, r), at+n+int(size)
	}
	m.some = m.epoch >= 1 && m.epoch <= maxNumber && m.from <= m.total && len(m.recs) == min(16, m.total-m.from) &&
		string(answered(m.epoch, m.from, m.total, m.top, m.recs...)) == string(b)
	return m
}

// drawRec is a valid record of a version from 1 to v.
func drawRec(r *rand.Rand, v int) api.Record {
	x := api.Record{V: 1 + r.Intn(v), Kind: 1 + r.Intn(7), Saga: pick(r, 1, 2, 3, 4, 5, 127, 128, 1<<40, api.MaxID)}
	fields := record.Fields(x.V, x.Kind)
	has := func(tag int) bool { return slices.Contains(fields, tag) }
	for _, f := range []struct {
		tag, least, more int
		to               *int
	}{{3, 1, 31, &x.Step}, {4, 1, 1000, &x.Try}, {5, 0, 1 << 50, &x.At}, {6, 0, 2, &x.Last}, {7, 0, 3, &x.Code}, {8, 1, 32, &x.Count}} {
		if has(f.tag) {
			*f.to = f.least + r.Intn(f.more)
		}
	}
	if x.Kind == api.KFail && x.V == 3 {
		x.Code = int(r.Uint64())
	}
	if has(9) {
		x.Pivot = r.Intn(x.Count + 1)
	}
	if has(10) {
		x.Name = pick(r, "pay", "a", "bücher")
	}
	if has(11) {
		x.Data = []byte(pick(r, "pay", "x", strings.Repeat("d", r.Intn(40)+1)))
	}
	return x
}

func drawRecs(r *rand.Rand, v, n int) []api.Record {
	var out []api.Record
	for range n {
		out = append(out, drawRec(r, v))
	}
	return out
}

// The records that the tests draw are valid.
func TestDrawnRecords(t *testing.T) {
	r := rand.New(rand.NewSource(190))
	for range 2000 {
		if x := drawRec(r, 3); record.Check(x) != api.OK {
			t.Fatalf("%+v: %d", x, record.Check(x))
		}
	}
}

func newDisk(t *testing.T, quota int, files ...api.File) *disk.Disk {
	t.Helper()
	d, e := disk.Load(quota, files)
	if e != api.OK {
		t.Fatal(e)
	}
	return d
}

// leader is a store on a new disk with these records, all synced.
func leader(t *testing.T, v int, recs ...api.Record) (*disk.Disk, *store.Store) {
	t.Helper()
	d := newDisk(t, 1<<20)
	s, err := store.Open(d, api.Options{V: v, Limit: 200})
	must(t, err)
	for batch := range slices.Chunk(recs, 16) {
		must(t, s.Append(batch...))
	}
	must(t, s.Sync())
	return d, s
}

// follower is one on a new disk.
func follower(t *testing.T, quota int) (*disk.Disk, *ship.Follower) {
	t.Helper()
	d := newDisk(t, quota)
	f, err := ship.Open(d, 64)
	must(t, err)
	return d, f
}

func listOf(t *testing.T, s *store.Store) []api.Record {
	t.Helper()
	out, err := s.Records()
	must(t, err)
	return out
}

// lifted is records in the version 3.
func lifted(t *testing.T, recs []api.Record) []api.Record {
	t.Helper()
	out, at, e := lift.UpAll(3, recs...)
	if e != api.OK {
		t.Fatalf("%+v is not lifted: %d", recs[at], e)
	}
	return out
}

// syncedOf is a leader's synced list.
func syncedOf(t *testing.T, s *store.Store) []api.Record {
	t.Helper()
	n := s.Stat()
	return lifted(t, listOf(t, s)[:n.Records-n.Pending])
}

func epochOf(s *store.Store) int { return s.Segments()[0].Num }

// place is a follower's place as a text.
func place(f *ship.Follower) string {
	p := f.Place()
	return fmt.Sprint(p.Epoch, p.Have, p.Loading)
}

// raw is files as a text.
func raw(files []api.File) string {
	var out strings.Builder
	for _, f := range files {
		out.WriteString("\n" + f.Name + " " + strconv.Itoa(len(f.Data)) + " ")
		out.Write(f.Data)
	}
	return out.String()
}

// sight is all that can be seen of a disk, the crashes that it may leave too.
func sight(d *disk.Disk) string {
	out := fmt.Sprint(d.Down(), d.Free(), d.List()) + raw(d.Files())
	for keep := range 9 {
		out += raw(d.Crash(keep)) + raw(d.Crash(keep, slices.Repeat([]api.Cut{{Keep: 3, Zero: 2}}, 150)...))
	}
	return out
}

// view is all that can be seen of a store and its disk.
func view(d *disk.Disk, s *store.Store) string { return sight(d) + fmt.Sprint(s.Stat(), s.Segments()) }

// chain is an error with all that is wrapped in it, once the outermost was held against what is promised of each; the empty text of none.
func chain(t *testing.T, err error) string {
	t.Helper()
	if err == nil {
		return ""
	}
	f, is := err.(*ship.Fault)
	if !is || f == nil || f.Err == nil || errors.Unwrap(err) != f.Err || err.Error() != f.Why+": "+f.Err.Error() {
		t.Fatalf("%v is no fault of this layer", err)
	}
	return f.Why + " " + beneath(t, f.Err)
}

// beneath is what stands in a fault of this layer: a number, or a fault of the store.
func beneath(t *testing.T, err error) string {
	t.Helper()
	switch x := err.(type) {
	case nil:
		return ""
	case api.Errno:
		if x == api.OK {
			t.Fatal("an error that is none")
		}
		return strconv.Itoa(int(x))
	case *store.Fault:
		return fmt.Sprintf("store %s %q %d %d", x.Op, x.Name, x.At, x.Err)
	}
	t.Fatalf("%T: %v", err, err)
	return ""
}

// round is one ask, answer and take.
func round(s *store.Store, f *ship.Follower) (bool, error) {
	ask, err := f.Ask()
	if err != nil {
		return false, err
	}
	msg, err := ship.Answer(s, ask)
	if err != nil {
		return false, err
	}
	return f.Take(msg)
}

// goDown lets a disk go down at once.
func goDown(d *disk.Disk) {
	d.Arm(0)
	d.SyncDir()
}
