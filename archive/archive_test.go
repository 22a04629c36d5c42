package archive_test

import (
	"encoding/binary"
	"encoding/hex"
	"iter"
	"slices"
	"strings"
	"testing"

	"annals/api"
	"annals/archive"
	"annals/disk"
	"annals/record"
	"annals/store"
)

// The calls are as the chapter lists them.
var (
	_ func(api.Archive) ([]byte, api.Errno)                       = archive.Pack
	_ func([]byte) (api.Archive, api.Errno, int)                  = archive.Read
	_ func(*store.Store) ([]byte, error)                          = archive.Backup
	_ func(*disk.Disk, api.Options, []byte) (*store.Store, error) = archive.Restore
	_ func([]byte, int) (iter.Seq[[]byte], api.Errno)             = archive.Cut
	_ func(...[]byte) ([]byte, api.Errno)                         = archive.Join
	_ error                                                       = (*archive.Fault)(nil)
	_ func(*archive.Fault) error                                  = (*archive.Fault).Unwrap
	_                                                             = archive.Fault{Why: "", Err: error(nil)}
)

// unhex is bytes as the document tells them.
func unhex(s string) []byte {
	b, err := hex.DecodeString(strings.ReplaceAll(s, " ", ""))
	if err != nil {
		panic(err)
	}
	return b
}

var (
	emptyHex = "41 4e 41 52 01 03 54 00 00 9e f6 44 58 a5 05 45 cb b2 27 a8 ef 3d 42 14 a5"
	oneHex   = "41 4e 41 52 01 03 54 09 01 41 7d 81 fe a5 06 52 01 01 07 02 01 fc 49 58 7a a5 05 45 7b 23 b2 b4 a2 83 d6 ed a5"
)

func end(v, saga int) api.Record { return api.Record{V: v, Kind: api.KEnd, Saga: saga} }

// Promises 17.1, 17.2: the chapter's examples.
func TestExamples(t *testing.T) {
	for _, c := range []struct {
		a    api.Archive
		want string
	}{{api.Archive{}, emptyHex}, {api.Archive{Top: 9, Recs: []api.Record{end(1, 1)}}, oneHex}} {
		b := pack(t, c.a)
		if !slices.Equal(b, unhex(c.want)) {
			t.Errorf("Pack(%+v): % x", c.a, b)
		}
		if a, e, at := archive.Read(b); e != api.OK || at != 0 || !sameArchive(a, c.a) {
			t.Errorf("Read: %+v, %d, %d", a, e, at)
		}
	}
	if b, e := archive.Pack(api.Archive{Top: -1, Recs: []api.Record{{V: 9}}}); e != api.ErrTop || b != nil {
		t.Errorf("% x, %d", b, e)
	}
	none := unhex(emptyHex)
	refusedAt(t, none[:len(none)-1], api.ErrShort, 14)
	refusedAt(t, append(none, 0), api.ErrEnding, 25)
	refusedAt(t, unhex("41 4e 41 52 02"), api.ErrArchive, 0)
	refusedAt(t, unhex("41 4e 41 52 01"), api.ErrShort, 5)
}

// refusedAt holds that Read refuses bytes with that error and place, and nothing beside.
func refusedAt(t *testing.T, b []byte, e api.Errno, at int) {
	t.Helper()
	if a, got, place := archive.Read(b); got != e || place != at || a.Top != 0 || a.Recs != nil {
		t.Errorf("Read(% x): %+v, %d, %d, not %d, %d", b, a, got, place, e, at)
	}
}

// Promise 17.1: what is refused, and what comes first.
func TestPackRefusals(t *testing.T) {
	good := end(3, 1)
	long := api.Record{V: 3, Kind: api.KDone, Saga: 1, Data: make([]byte, 16384)}
	many := slices.Repeat([]api.Record{long}, 600)
	with := func(recs []api.Record, r api.Record) []api.Record { return slices.Concat(recs, []api.Record{r}) }
	bad := []struct {
		r api.Record
		e api.Errno
	}{
		{api.Record{}, api.ErrVersion}, {api.Record{V: 4, Kind: 7, Saga: 1}, api.ErrVersion}, {api.Record{V: -1}, api.ErrVersion},
		{api.Record{V: 1}, api.ErrKind}, {api.Record{V: 1, Kind: 7}, api.ErrID}, {api.Record{V: 1, Kind: 7, Saga: 1, At: 1}, api.ErrExtra},
		{api.Record{V: 2, Kind: 2, Saga: 1}, api.ErrBound}, {api.Record{V: 2, Kind: 1, Saga: 1, Count: 1}, api.ErrLabel},
		{api.Record{V: 1, Kind: 3, Saga: 1, Data: make([]byte, 16385)}, api.ErrData},
	}
	for _, c := range bad {
		for _, recs := range [][]api.Record{{c.r}, {good, c.r}, {c.r, good}, {good, c.r, {V: 9}}, {good, c.r, {V: 1, Kind: 9}}, with(many, c.r)} {
			if b, e := archive.Pack(api.Archive{Recs: recs}); e != c.e || b != nil {
				t.Errorf("%+v among %d: %d, not %d", c.r, len(recs), e, c.e)
			}
			if b, e := archive.Pack(api.Archive{Top: -1, Recs: recs}); e != api.ErrTop || b != nil {
				t.Errorf("Top -1: %d", e)
			}
		}
	}
	if b, e := archive.Pack(api.Archive{Recs: many}); e != api.ErrLong || b != nil {
		t.Errorf("600 long ones: %d", e)
	}
	if b, e := archive.Pack(api.Archive{Top: -1 << 63, Recs: many}); e != api.ErrTop || b != nil {
		t.Errorf("600 long ones, and no Top: %d", e)
	}
}

// Promise 17.1: the bytes, of records of all kinds and versions.
func TestPackForm(t *testing.T) {
	for v := 1; v <= 3; v++ {
		for kind := 1; kind <= 7; kind++ {
			r := api.Record{V: v, Kind: kind, Saga: 300}
			for _, tag := range record.Fields(v, kind) {
				switch tag {
				case 3:
					r.Step = 1
				case 4:
					r.Try = 1
				case 8:
					r.Count = 1
				case 10:
					r.Name = "pay"
				case 11:
					r.Data = []byte("pay")
				}
			}
			for _, top := range []int{0, 127, 128, api.MaxID} {
				for n := range 3 {
					recs := slices.Repeat([]api.Record{r}, n)
					if b := pack(t, api.Archive{Top: top, Recs: recs}); !slices.Equal(b, packed(top, recs...)) {
						t.Errorf("Top %d, %d of %+v: % x", top, n, r, b)
					}
				}
			}
		}
	}
}

// Promise 17.2: the head.
func TestReadHead(t *testing.T) {
	one := unhex(oneHex)
	for n := range 5 {
		refusedAt(t, one[:n], api.ErrArchive, 0)
		for bit := range 8 {
			b := slices.Clone(one)
			b[n] ^= 1 << bit
			refusedAt(t, b, api.ErrArchive, 0)
		}
	}
	refusedAt(t, nil, api.ErrArchive, 0)
	refusedAt(t, []byte{}, api.ErrArchive, 0)
	refusedAt(t, append([]byte{0}, one...), api.ErrArchive, 0)
	refusedAt(t, []byte("anar\x01"), api.ErrArchive, 0)
}

// brokenFrames is bytes of which ReadFrame tells an error.
func brokenFrames() []struct {
	b []byte
	e api.Errno
} {
	good := framed([]byte("Q")...)
	mark, sum := slices.Clone(good), slices.Clone(good)
	mark[len(mark)-1] = 0
	sum[1] ^= 1
	return []struct {
		b []byte
		e api.Errno
	}{
		{nil, api.ErrShort}, {good[:1], api.ErrShort}, {good[:len(good)-1], api.ErrShort}, {unhex("80"), api.ErrShort},
		{unhex("80 00"), api.ErrMinimal}, {unhex("ff ff ff ff ff ff ff ff ff 02"), api.ErrWide}, {unhex("00 00"), api.ErrEmpty},
		{binary.AppendUvarint(nil, 1048577), api.ErrOver}, {mark, api.ErrMark}, {sum, api.ErrSum},
	}
}

// Promise 17.2: where a frame should stand and none does, the error of ReadFrame and the place where it should begin are told, of the first frame, of a record's, of the last.
func TestReadBrokenFrames(t *testing.T) {
	rec := middle(end(2, 5))
	for _, c := range brokenFrames() {
		for _, ahead := range [][]byte{[]byte("ANAR\x01"), first(7, 2), slices.Concat(first(7, 2), rec), first(7, 0), slices.Concat(first(7, 1), rec)} {
			refusedAt(t, slices.Concat(ahead, c.b), c.e, len(ahead))
		}
	}
}

// Promise 17.2: the body of the first frame.
func TestReadFirst(t *testing.T) {
	big := "ff ff ff ff ff ff ff ff 7f" // 2^63 - 1
	for _, c := range []string{
		"00", "52 00 00", "45 00 00", "74 00 00", "54", "54 00", "54 80", "54 00 80", "54 00 00 00", "54 80 00 00", "54 00 80 00", "54 81 00 00",
		"54 80 80 80 80 80 80 80 80 80 01 00", "54 ff ff ff ff ff ff ff ff ff 01 00", "54 ff ff ff ff ff ff ff ff ff 02 00", "54 00 ff ff ff ff ff ff ff ff ff 02",
		"54" + big, "54 00" + big + "00", "45 cb b2 27 a8",
	} {
		b := slices.Concat([]byte("ANAR\x01"), framed(unhex(c)...))
		refusedAt(t, b, api.ErrArchive, 5)
		refusedAt(t, ended(b), api.ErrArchive, 5)
	}
	b := ended([]byte("ANAR\x01"), framed(unhex("54"+big+"00")...))
	if a, e, at := archive.Read(b); e != api.OK || at != 0 || a.Top != api.MaxID || len(a.Recs) != 0 {
		t.Errorf("the greatest Top: %+v, %d, %d", a, e, at)
	}
}

// Promise 17.2: the body of a record's frame: of the first, and of the second.
func TestReadRecords(t *testing.T) {
	good := middle(end(3, 300))
	for _, c := range []struct {
		body string
		e    api.Errno
	}{
		{"00", api.ErrCount}, {"45 00 00 00 00", api.ErrCount}, {"54 00 00", api.ErrCount}, {"72 01 01 07 02 01", api.ErrCount}, {"01 01 07 02 01", api.ErrCount}, {"50", api.ErrCount},
		{"52", api.ErrVersion}, {"52 00", api.ErrVersion}, {"52 04", api.ErrVersion}, {"52 ff", api.ErrVersion}, {"52 00 01 07 02 01", api.ErrVersion}, {"52 04 80", api.ErrVersion}, {"52 81 01 07 02 01", api.ErrVersion},
		{"52 01", api.ErrKind}, {"52 03", api.ErrKind}, {"52 01 02 01 01 07", api.ErrTag}, {"52 01 01 07 02 01 05 00", api.ErrZero}, {"52 01 01 07 02 01 05 09", api.ErrExtra},
		{"52 03 01 07 02 01 07 01", api.ErrBound}, {"52 03 01 07 02 81 00", api.ErrMinimal}, {"52 03 01 07 02", api.ErrShort}, {"52 03 01 07", api.ErrID},
		{"52 03 01 07 02 ff ff ff ff ff ff ff ff ff 01", api.ErrBound}, {"52 01 01 01 02 05 03 02 0b 02 32 62", api.ErrLabel}, {"52 02 01 01 02 05 08 03 09 02 0a 03 62 75 79", api.ErrExtra},
		{"52 01 01 03 02 05 0b 81 80 01", api.ErrOver}, {"52 01 01 07 02 ff ff ff ff ff ff ff ff ff 02", api.ErrWide},
	} {
		f := framed(unhex(c.body)...)
		refusedAt(t, ended(first(0, 1), f), c.e, 14)
		refusedAt(t, ended(first(0, 2), f, good), c.e, 14)
		refusedAt(t, ended(first(0, 2), good, f), c.e, 14+len(good))
		refusedAt(t, slices.Concat(first(0, 2), good, f), c.e, 14+len(good))
	}
	old := api.Record{V: 2, Kind: api.KEnd, Saga: 1, At: 9}
	if a, e, _ := archive.Read(ended(first(0, 2), middle(old), good)); e != api.OK || !sameRecs(a.Recs, []api.Record{old, end(3, 300)}) {
		t.Errorf("each in its own version: %+v, %d", a, e)
	}
}

// Promise 17.2: not so many records as the first frame says.
func TestReadCount(t *testing.T) {
	rec := middle(end(1, 1))
	for _, n := range []uint64{2, 3, 127, 128, 1 << 31, 1 << 32, 1<<63 - 1, 1 << 63, 1<<64 - 1} {
		f := first(0, n)
		refusedAt(t, ended(f, rec), api.ErrCount, len(f)+len(rec))
		refusedAt(t, slices.Concat(f, rec), api.ErrShort, len(f)+len(rec))
	}
	// One too many: whatever else is wrong with it, it is told as one.
	for _, f := range [][]byte{rec, framed('R'), framed('R', 9), framed([]byte("R and no record")...)} {
		refusedAt(t, ended(first(0, 0), f), api.ErrCount, 14)
		refusedAt(t, ended(first(0, 1), rec, f), api.ErrCount, 14+len(rec))
	}
}

// Promise 17.2: the body of the last frame, and what stands behind it.
func TestReadLast(t *testing.T) {
	rec := middle(end(1, 1))
	ahead := slices.Concat(first(5, 1), rec)
	whole := ended(ahead)
	sum := whole[len(ahead)+2 : len(ahead)+6]
	if !slices.Equal(whole, slices.Concat(ahead, framed(append([]byte("E"), sum...)...))) {
		t.Fatalf("% x", whole)
	}
	for _, body := range [][]byte{
		[]byte("E"), append([]byte("E"), sum[:3]...), slices.Concat([]byte("E"), sum, []byte{0}), append([]byte("e"), sum...), append([]byte("T"), sum...),
		append([]byte("P"), sum...), {0}, sum, {'E', sum[3], sum[2], sum[1], sum[0]}, {'E', 0, 0, 0, 0}, slices.Concat([]byte("EE"), sum),
	} {
		refusedAt(t, slices.Concat(ahead, framed(body...)), api.ErrArchive, len(ahead))
		refusedAt(t, slices.Concat(ahead, framed(body...), []byte("more")), api.ErrArchive, len(ahead))
	}
	for _, behind := range [][]byte{{0}, {0xa5}, whole[len(ahead):], whole, []byte("ANAR\x01"), make([]byte, 99)} {
		refusedAt(t, slices.Concat(whole, behind), api.ErrEnding, len(whole))
	}
	// The sum is of the head, the first frame and the records' frames: it hangs on their lengths.
	for _, other := range [][]byte{ended(first(300, 1), rec), ended(first(5, 1), middle(end(1, 300))), ended(first(5, 0))} {
		refusedAt(t, slices.Concat(ahead, other[len(other)-11:]), api.ErrArchive, len(ahead))
	}
}
