package archive_test

import (
	"runtime"
	"slices"
	"testing"

	"annals/api"
	"annals/archive"
)

// filled is an archive whose bytes are just so many.
func filled(t *testing.T, size int) api.Archive {
	t.Helper()
	data := func(n int) api.Record {
		return api.Record{V: 3, Kind: api.KDone, Saga: 1, Data: make([]byte, n)}
	}
	long := len(middle(data(16384)))
	beside := len(middle(data(9999))) - 9999 // of each record whose length has two bytes
	n := size/long - 1
	rest := size - len(first(0, uint64(n+3))) - 11 - n*long
	recs := slices.Repeat([]api.Record{data(16384)}, n)
	for k := range 3 {
		recs = append(recs, data((rest+k)/3-beside))
	}
	return api.Archive{Recs: recs}
}

// Promises 17.1, 17.2: an archive of just MaxArchive bytes is written and read; one of a byte more is neither.
func TestMaxArchive(t *testing.T) {
	a := filled(t, maxArchive)
	b := pack(t, a)
	if len(b) != maxArchive {
		t.Fatalf("%d bytes", len(b))
	}
	if back, e, at := archive.Read(b); e != api.OK || at != 0 || !sameArchive(back, a) {
		t.Errorf("%d records, %d, %d", len(back.Recs), e, at)
	}
	if back, e, at := archive.Read(append(b, 0)); e != api.ErrLong || at != maxArchive || back.Recs != nil {
		t.Errorf("with a byte behind: %d, %d", e, at)
	}
	if _, e, at := archive.Read(make([]byte, maxArchive+1)); e != api.ErrLong || at != maxArchive {
		t.Errorf("zeros: %d, %d", e, at)
	}
	if _, e, at := archive.Read(make([]byte, maxArchive)); e != api.ErrArchive || at != 0 {
		t.Errorf("zeros: %d, %d", e, at)
	}
	for _, more := range []int{1, 2, 10, 11, 12, 30} {
		if b, e := archive.Pack(filled(t, maxArchive+more)); e != api.ErrLong || b != nil {
			t.Errorf("%d bytes more: %d", more, e)
		}
	}
	if b := pack(t, filled(t, maxArchive-1)); len(b) != maxArchive-1 {
		t.Errorf("%d bytes", len(b))
	}
	// A Top of two bytes is one byte too many.
	a.Top = 128
	if b, e := archive.Pack(a); e != api.ErrLong || b != nil {
		t.Errorf("Top 128: %d", e)
	}
	a.Top = 127
	if b := pack(t, a); len(b) != maxArchive {
		t.Errorf("Top 127: %d bytes", len(b))
	}
}

// Promises 17.1, 17.2: many short records, and more than an archive can hold.
func TestManyRecords(t *testing.T) {
	const n = 250000
	recs := slices.Repeat([]api.Record{end(1, 1)}, n)
	b := pack(t, api.Archive{Recs: recs})
	if back, e, _ := archive.Read(b); e != api.OK || len(back.Recs) != n {
		t.Errorf("%d records, %d", len(back.Recs), e)
	}
	if _, e := archive.Pack(api.Archive{Recs: slices.Concat(recs, recs, recs)}); e != api.ErrLong {
		t.Errorf("three times as many: %d", e)
	}
}

// allocated is how many bytes of memory a call takes.
func allocated(do func()) uint64 {
	var before, after runtime.MemStats
	runtime.ReadMemStats(&before)
	do()
	runtime.ReadMemStats(&after)
	return after.TotalAlloc - before.TotalAlloc
}

// Promises 17.1, 17.2, 17.8: no room is made for what is not there, nor for what may not be.
func TestNoRoomAhead(t *testing.T) {
	for _, n := range []uint64{1 << 30, 1 << 62, 1<<64 - 1} {
		b := ended(first(0, n))
		if got := allocated(func() { refusedAt(t, b, api.ErrCount, len(b)-11) }); got > 1<<16 {
			t.Errorf("%d records are said to be there: %d bytes", n, got)
		}
	}
	recs := slices.Repeat([]api.Record{{V: 3, Kind: api.KDone, Saga: 1, Data: make([]byte, 16384)}}, 50000)
	if got := allocated(func() { archive.Pack(api.Archive{Recs: recs}) }); got > 40*maxArchive {
		t.Errorf("Pack of 800 million bytes: %d bytes", got)
	}
	b := make([]byte, 50*maxArchive)
	if got := allocated(func() { archive.Cut(b, 100) }); got > 1<<16 {
		t.Errorf("Cut of too many bytes: %d bytes", got)
	}
}
