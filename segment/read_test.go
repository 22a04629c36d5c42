package segment_test

import (
	"bytes"
	"slices"
	"testing"

	"annals/api"
	"annals/segment"
)

// some is records of three sagas, of version 3.
func some() []api.Record {
	return []api.Record{
		{V: 3, Kind: api.KBegin, Saga: 300, At: 1, Count: 2, Pivot: 1, Name: "buy", Data: []byte("in")},
		{V: 3, Kind: api.KBegin, Saga: 2, At: 1, Count: 1, Name: "\u00e9t\u00e9"},
		{V: 3, Kind: api.KStart, Saga: 300, Try: 1, At: 2},
		{V: 3, Kind: api.KEnd, Saga: api.MaxID, At: 3, Code: 2},
		{V: 3, Kind: api.KDone, Saga: 300, At: 4, Data: []byte{0, 255, 'R', 'X'}},
	}
}

// heads are the bytes that every reader refuses, each with its error.
func heads() []struct {
	name string
	b    []byte
	e    api.Errno
} {
	long := func(head string) []byte { return append([]byte(head), make([]byte, api.MaxSegment+1-len(head))...) }
	return []struct {
		name string
		b    []byte
		e    api.Errno
	}{
		{"nothing", nil, api.ErrHead},
		{"empty", []byte{}, api.ErrHead},
		{"the magic alone", []byte("ANLS"), api.ErrHead},
		{"four other bytes", []byte("ANL\x01"), api.ErrHead},
		{"another magic", []byte("ANLs\x01"), api.ErrHead},
		{"the first byte wrong", []byte("BNLS\x01"), api.ErrHead},
		{"another magic and version", []byte("ANLT\x09"), api.ErrHead},
		{"version 0", []byte("ANLS\x00"), api.ErrVersion},
		{"version 4", []byte("ANLS\x04"), api.ErrVersion},
		{"version 255", []byte("ANLS\xff"), api.ErrVersion},
		{"a digit for the version", []byte("ANLS1"), api.ErrVersion},
		{"no version, and a seal", join([]byte("ANLS\x00"), unhex(foot0)), api.ErrVersion},
		{"another magic, and a seal", join([]byte("ANL\x00\x01"), unhex(foot0)), api.ErrHead},
		{"a head too short, and a seal", []byte("SEAL"), api.ErrHead},
		{"too long", long("ANLS\x01"), api.ErrLong},
		{"too long, no head", long(""), api.ErrLong},
		{"too long, no version", long("ANLS\x07"), api.ErrLong},
		{"too long by far", make([]byte, 3*api.MaxSegment), api.ErrLong},
	}
}

// Promises 7.3 to 7.6: what all readers refuse, in its order, ahead of all else.
func TestHeads(t *testing.T) {
	for _, row := range heads() {
		if b, e := segment.Footer(row.b); e != row.e || len(b) != 0 {
			t.Errorf("%s: Footer = % x, %d", row.name, b, e)
		}
		if s, e := segment.Scan(row.b); e != row.e || !sameScan(s, api.Scan{}) {
			t.Errorf("%s: Scan = %+v, %d", row.name, s, e)
		}
		if s, e := segment.Read(row.b); e != row.e || !sameScan(s, api.Scan{}) {
			t.Errorf("%s: Read = %+v, %d", row.name, s, e)
		}
		for _, saga := range []int{1, 0, -1} {
			if l, e := segment.Find(row.b, saga); e != row.e || len(l) != 0 {
				t.Errorf("%s: Find of %d = %+v, %d", row.name, saga, l, e)
			}
		}
	}
}

// Promise 7.3: the chapter's examples, and what is no good run to the end.
func TestFooter(t *testing.T) {
	one := join(unhex(head1), unhex(frame1))
	rows := []struct {
		name string
		b    []byte
		want string
		e    api.Errno
	}{
		{"no record", unhex(head1), foot0, api.OK},
		{"one record", one, foot1, api.OK},
		{"sealed already", join(one, unhex(foot1)), "", api.ErrRecord},
		{"sealed already, no record", join(unhex(head1), unhex(foot0)), "", api.ErrRecord},
		{"a byte too few", one[:len(one)-1], "", api.ErrRecord},
		{"a zero behind", append(bytes.Clone(one), 0), "", api.ErrRecord},
		{"a zero alone", append(unhex(head1), 0), "", api.ErrRecord},
		{"a frame of another letter", join(one, frame([]byte("r\x01\x07\x02\x01"))), "", api.ErrRecord},
		{"a frame without a record", join(one, frame([]byte("R"))), "", api.ErrRecord},
		{"a fault in the first of two", join(unhex(head1), frame([]byte("R\x01\x07")), unhex(frame1)), "", api.ErrRecord},
		{"a record of a higher version", join(unhex(head1), frame([]byte("R\x01\x07\x02\x01\x05\x09"))), "", api.ErrRecord},
		{"the same in that version", join(header(2), frame([]byte("R\x01\x07\x02\x01\x05\x09"))), "06 58 01 01 01 01 05 f2 81 0e f3 a5 12 00 00 00 53 45 41 4c", api.OK},
	}
	for _, row := range rows {
		if f, e := segment.Footer(row.b); e != row.e || !bytes.Equal(f, unhex(row.want)) {
			t.Errorf("%s: % x, %d", row.name, f, e)
		}
	}
}

// Promise 7.4: the chapter's examples, and what ends a good run.
func TestScan(t *testing.T) {
	one, f1 := unhex(head1), unhex(frame1)
	rows := []struct {
		name   string
		b      []byte
		n      int
		sealed bool
	}{
		{"no record", one, 0, false},
		{"a frame without its last byte", join(one, f1[:10]), 0, false},
		{"one record", join(one, f1), 1, false},
		{"one record and zeros", join(one, f1, make([]byte, 3)), 1, false},
		{"two records and a piece of one", join(one, f1, f1, f1[:3]), 2, false},
		{"sealed", join(one, f1, unhex(foot1)), 1, true},
		{"sealed, no record", join(one, unhex(foot0)), 0, true},
		{"a footer without a trailer", join(one, f1, unhex(foot1)[:12]), 1, false},
		{"a footer without its last byte", join(one, f1, unhex(foot1)[:19]), 1, false},
		{"sealed, and a byte behind", join(one, f1, unhex(foot1), []byte{0}), 1, false},
		{"the footer of another segment", join(one, f1, f1, unhex(foot1)), 2, false},
		{"a footer that tells less", under(join(one, f1, f1), 1, api.Entry{Saga: 1, At: []int{5}}), 2, false},
		{"a wrong number", under(join(one, f1), 2, api.Entry{Saga: 1, At: []int{5}}), 1, false},
		{"a fault ahead of the footer", under(join(one, f1, []byte{0}), 1, api.Entry{Saga: 1, At: []int{5}}), 1, false},
		{"a record behind a footer", join(one, f1, unhex(foot1), f1), 1, false},
		{"a record behind another frame", join(one, f1, frame([]byte("Z")), f1), 1, false},
		{"a record behind a zero", join(one, f1, []byte{0}, f1), 1, false},
		{"a frame of no record", join(one, f1, frame([]byte("R\x01\x07\x02")), f1), 1, false},
		{"a record of a higher version", join(one, f1, frame([]byte("R\x01\x07\x02\x01\x05\x09")), f1), 1, false},
	}
	for _, row := range rows {
		want := api.Scan{V: 1, End: 5 + 11*row.n, Sealed: row.sealed}
		for i := range row.n {
			want.Recs = append(want.Recs, end1())
			want.At = append(want.At, 5+11*i)
		}
		if row.n > 0 {
			want.Index = []api.Entry{{Saga: 1, At: want.At}}
		}
		if s, e := segment.Scan(row.b); e != api.OK || !sameScan(s, want) {
			t.Errorf("%s: %+v, %d", row.name, s, e)
		}
	}
}

// Promise 7.4: the index goes by rising saga, of each saga by rising place, whatever the order of the records is.
func TestIndexOfScan(t *testing.T) {
	recs := some()
	at, end := places(recs...)
	want := api.Scan{V: 3, End: end, Recs: recs, At: at, Index: []api.Entry{{Saga: 2, At: []int{at[1]}}, {Saga: 300, At: []int{at[0], at[2], at[4]}}, {Saga: api.MaxID, At: []int{at[3]}}}}
	if s, e := segment.Scan(open(3, recs...)); e != api.OK || !sameScan(s, want) {
		t.Errorf("%+v, %d", s, e)
	}
	want.Sealed = true
	for name, call := range map[string]func([]byte) (api.Scan, api.Errno){"Scan": segment.Scan, "Read": segment.Read} {
		if s, e := call(sealed(3, recs...)); e != api.OK || !sameScan(s, want) {
			t.Errorf("%s: %+v, %d", name, s, e)
		}
	}
}

// faults are segments that are not sealed, or by a footer that is none.
func faults() []struct {
	name string
	b    []byte
	e    api.Errno
} {
	h, f1, f0 := unhex(head1), unhex(frame1), unhex(foot0)[:9]
	foot := func(body string) []byte { return join(h, frame([]byte(body)), trailer(5)) }
	return []struct {
		name string
		b    []byte
		e    api.Errno
	}{
		{"a header alone", h, api.ErrUnsealed},
		{"open", join(h, f1), api.ErrUnsealed},
		{"open, with zeros", join(h, f1, make([]byte, 3)), api.ErrUnsealed},
		{"12 bytes", join(h, []byte("\x00\x00\x00SEAL")), api.ErrUnsealed},
		{"9 bytes", join(h, []byte("SEAL")), api.ErrUnsealed},
		{"the seal cut", join(h, f0, []byte("\x05\x00\x00\x00SEA")), api.ErrUnsealed},
		{"another seal", join(h, f0, []byte("\x05\x00\x00\x00SEAl")), api.ErrUnsealed},
		{"a byte behind the seal", join(h, f0, trailer(5), []byte{0}), api.ErrUnsealed},

		{"13 bytes", join(h, trailer(5)), api.ErrFooter},
		{"13 bytes, place 4", join(h, trailer(4)), api.ErrFooter},
		{"13 bytes, place 0", join(h, trailer(0)), api.ErrFooter},
		{"place 4", join(h, f0, trailer(4)), api.ErrFooter},
		{"place 0", join(h, f0, trailer(0)), api.ErrFooter},
		{"a frame whose length is the version's byte", join([]byte("ANLS"), f0, trailer(4)), api.ErrFooter},
		{"a byte too far", join(h, f0, trailer(6)), api.ErrFooter},
		{"at the trailer", join(h, f0, trailer(14)), api.ErrFooter},
		{"in the trailer", join(h, f0, trailer(15)), api.ErrFooter},
		{"at the end", join(h, f0, trailer(22)), api.ErrFooter},
		{"behind the end", join(h, f0, trailer(23)), api.ErrFooter},
		{"far behind", join(h, f0, trailer(1<<32-1)), api.ErrFooter},
		{"the right place and more", join(h, f0, trailer(5+1<<8)), api.ErrFooter},
		{"the right place and the top bit", join(h, f0, trailer(5+1<<31)), api.ErrFooter},
		{"highest byte first", join(h, f0, []byte("\x00\x00\x00\x05SEAL")), api.ErrFooter},
		{"a record's frame", join(h, f1, trailer(5)), api.ErrFooter},
		{"a frame that ends early", join(h, f0, []byte{0}, trailer(5)), api.ErrFooter},
		{"a frame that ends late", join(h, f0[:8], trailer(5)), api.ErrFooter},
		{"a broken sum", join(h, []byte("\x03X\x00\x00\xfa\x0f\x5e\x52\xa5"), trailer(5)), api.ErrFooter},
		{"zeros", join(h, make([]byte, 9), trailer(5)), api.ErrFooter},
		{"another letter", foot("x\x00\x00"), api.ErrFooter},
		{"a record's letter", foot("R\x00\x00"), api.ErrFooter},
		{"a letter alone", foot("X"), api.ErrFooter},
		{"a number cut", foot("X\x80"), api.ErrFooter},
		{"a number too long", foot("X\x80\x00\x00"), api.ErrFooter},
		{"a number beyond 64 bits", foot("X\xff\xff\xff\xff\xff\xff\xff\xff\xff\x02\x00"), api.ErrFooter},
		{"no index", foot("X\x00"), api.ErrFooter},
		{"a byte behind the index", foot("X\x00\x00\x00"), api.ErrFooter},
		{"an index cut", foot("X\x01\x01\x01\x01"), api.ErrFooter},
		{"an index with the key 0", foot("X\x01\x01\x00\x01\x05"), api.ErrFooter},
		{"a key without a place", foot("X\x00\x01\x01\x00"), api.ErrFooter},
		{"places that don't rise", foot("X\x02\x01\x01\x02\x05\x00"), api.ErrFooter},
		{"a key above the greatest", foot("X\x01\x01\x80\x80\x80\x80\x80\x80\x80\x80\x80\x01\x01\x05"), api.ErrFooter},

		{"a bad footer ahead of a bad record", join(h, []byte{0}, frame([]byte("x")), trailer(6)), api.ErrFooter},
		{"a bad footer behind a bad record of another version", join(header(2), frame([]byte("R\x01")), frame([]byte("X\x00")), trailer(14)), api.ErrFooter},
	}
}

// Promises 7.5 and 7.6: Read and Find refuse the same footers, Find ahead of the saga's number; and to Scan they are nothing.
func TestFaultsOfFooters(t *testing.T) {
	for _, row := range faults() {
		if s, e := segment.Read(row.b); e != row.e || !sameScan(s, api.Scan{}) {
			t.Errorf("%s: Read = %+v, %d", row.name, s, e)
		}
		for _, saga := range []int{1, 2, 0, -1} {
			if l, e := segment.Find(row.b, saga); e != row.e || len(l) != 0 {
				t.Errorf("%s: Find of %d = %+v, %d", row.name, saga, l, e)
			}
		}
		if s, e := segment.Scan(row.b); e != api.OK || s.Sealed {
			t.Errorf("%s: Scan = %+v, %d", row.name, s, e)
		}
	}
}

// Promise 7.5: a footer that is one, but not that of what stands ahead of it.
func TestRead(t *testing.T) {
	h, f1 := unhex(head1), unhex(frame1)
	entry := func(saga int, at ...int) api.Entry { return api.Entry{Saga: saga, At: at} }
	bad := bytes.Clone(f1)
	bad[8] ^= 1
	rows := []struct {
		name string
		b    []byte
		e    api.Errno
	}{
		{"the chapter's example", join(h, f1, unhex(foot1)), api.OK},
		{"no record", join(h, unhex(foot0)), api.OK},
		{"two", under(join(h, f1, f1), 2, entry(1, 5, 16)), api.OK},

		{"a byte ahead of the footer", under(join(h, f1, []byte{0}), 1, entry(1, 5)), api.ErrRecord},
		{"a byte alone", under(join(h, []byte{0}), 0), api.ErrRecord},
		{"a broken sum", under(join(h, bad), 1, entry(1, 5)), api.ErrRecord},
		{"a broken record", under(join(h, frame([]byte("R\x01\x07"))), 1, entry(1, 5)), api.ErrRecord},
		{"another letter", under(join(h, frame([]byte("Z\x01\x07\x02\x01"))), 1, entry(1, 5)), api.ErrRecord},
		{"a record of a higher version", under(join(h, frame([]byte("R\x01\x07\x02\x01\x05\x09"))), 1, entry(1, 5)), api.ErrRecord},
		{"a footer behind a footer", under(join(h, f1, unhex(foot1)), 1, entry(1, 5)), api.ErrRecord},
		{"a piece of a frame", under(join(h, f1, f1[:10]), 1, entry(1, 5)), api.ErrRecord},
		{"a bad record and a bad index", under(join(h, f1, []byte{0}), 7, entry(9, 1)), api.ErrRecord},

		{"too few records", join(h, f1, frame([]byte("X\x00\x00")), trailer(16)), api.ErrIndex},
		{"too many records", under(h, 1, entry(1, 5)), api.ErrIndex},
		{"a number too low", under(join(h, f1), 0, entry(1, 5)), api.ErrIndex},
		{"a number too high", under(join(h, f1), 2, entry(1, 5)), api.ErrIndex},
		{"a number that is negative in 64 bits", under(join(h, f1), 1<<64-1, entry(1, 5)), api.ErrIndex},
		{"a number that is right in 32 bits", under(join(h, f1), 1<<32+1, entry(1, 5)), api.ErrIndex},
		{"no index", under(join(h, f1), 1), api.ErrIndex},
		{"an index of none", under(h, 0, entry(1, 5)), api.ErrIndex},
		{"another saga", under(join(h, f1), 1, entry(2, 5)), api.ErrIndex},
		{"another place", under(join(h, f1), 1, entry(1, 6)), api.ErrIndex},
		{"place 0", under(join(h, f1), 1, entry(1, 0)), api.ErrIndex},
		{"a place too many", under(join(h, f1), 1, entry(1, 5, 16)), api.ErrIndex},
		{"a place too few", under(join(h, f1, f1), 2, entry(1, 16)), api.ErrIndex},
		{"a saga too many", under(join(h, f1), 1, entry(1, 5), entry(2, 5)), api.ErrIndex},
		{"the number of places", under(join(h, f1, f1), 1, entry(1, 5)), api.ErrIndex},
	}
	for _, row := range rows {
		s, e := segment.Read(row.b)
		if e != row.e || (e == api.OK) != s.Sealed || e != api.OK && !sameScan(s, api.Scan{}) {
			t.Errorf("%s: %+v, %d", row.name, s, e)
		}
	}
}

// Promise 7.6: the chapter's examples, and what a footer may tell of a saga's places.
func TestFind(t *testing.T) {
	h, f1 := unhex(head1), unhex(frame1)
	entry := func(saga int, at ...int) api.Entry { return api.Entry{Saga: saga, At: at} }
	one, other := end1(), api.Record{V: 1, Kind: api.KEnd, Saga: 2}
	three := join(h, f1, frameOf(other), f1) // at 5, 16 and 27, to 38
	rows := []struct {
		name string
		b    []byte
		saga int
		want []api.Record
		e    api.Errno
	}{
		{"the chapter's example", join(h, f1, unhex(foot1)), 1, []api.Record{one}, api.OK},
		{"a saga that is not there", join(h, f1, unhex(foot1)), 2, nil, api.OK},
		{"the greatest saga", join(h, f1, unhex(foot1)), api.MaxID, nil, api.OK},
		{"saga 0", join(h, f1, unhex(foot1)), 0, nil, api.ErrArg},
		{"saga -1", join(h, f1, unhex(foot1)), -1, nil, api.ErrArg},
		{"the least saga", join(h, f1, unhex(foot1)), -1 << 63, nil, api.ErrArg},
		{"no record", join(h, unhex(foot0)), 1, nil, api.OK},
		{"two of three", under(three, 3, entry(1, 5, 27), entry(2, 16)), 1, []api.Record{one, one}, api.OK},
		{"one of three", under(three, 3, entry(1, 5, 27), entry(2, 16)), 2, []api.Record{other}, api.OK},

		{"a wrong number is not seen", under(three, 99, entry(1, 5, 27), entry(2, 16)), 1, []api.Record{one, one}, api.OK},
		{"what the index leaves out is not seen", under(three, 3, entry(1, 27)), 1, []api.Record{one}, api.OK},
		{"what is wrong of another saga is not seen", under(three, 3, entry(1, 5), entry(2, 0, 6, 1<<40)), 1, []api.Record{one}, api.OK},
		{"bytes that are no frame are not seen", under(join(h, []byte("zzz"), f1, []byte("zzz")), 1, entry(1, 8)), 1, []api.Record{one}, api.OK},
		{"a frame of another letter is not seen", under(join(h, f1, frame([]byte("Z")), f1), 3, entry(1, 5, 23)), 1, []api.Record{one, one}, api.OK},

		{"place 0", under(three, 3, entry(1, 0)), 1, nil, api.ErrRecord},
		{"place 4", under(three, 3, entry(1, 4)), 1, nil, api.ErrRecord},
		{"within a frame", under(three, 3, entry(1, 6)), 1, nil, api.ErrRecord},
		{"at the footer", under(three, 3, entry(1, 38)), 1, nil, api.ErrRecord},
		{"in the footer", under(three, 3, entry(1, 39)), 1, nil, api.ErrRecord},
		{"at the end", under(three, 3, entry(1, len(under(three, 3, entry(1, 38))))), 1, nil, api.ErrRecord},
		{"behind the end", under(three, 3, entry(1, 1<<20)), 1, nil, api.ErrRecord},
		{"the greatest place", under(three, 3, entry(1, 1<<63-1)), 1, nil, api.ErrRecord},
		{"a frame of another letter", under(join(h, frame([]byte("Z\x01\x07\x02\x01"))), 1, entry(1, 5)), 1, nil, api.ErrRecord},
		{"a frame of no record", under(join(h, frame([]byte("R\x01\x07"))), 1, entry(1, 5)), 1, nil, api.ErrRecord},
		{"a record of a higher version", under(join(h, frame([]byte("R\x01\x07\x02\x01\x05\x09"))), 1, entry(1, 5)), 1, nil, api.ErrRecord},
		{"another saga's", under(three, 3, entry(1, 16)), 1, nil, api.ErrIndex},
		{"another saga's behind its own", under(three, 3, entry(1, 5, 16)), 1, nil, api.ErrIndex},
		{"the first error decides: index", under(three, 3, entry(1, 5, 16, 17)), 1, nil, api.ErrIndex},
		{"the first error decides: record", under(three, 3, entry(1, 5, 6, 16)), 1, nil, api.ErrRecord},
		{"its own behind a fault", under(three, 3, entry(1, 4, 5)), 1, nil, api.ErrRecord},
	}
	for _, row := range rows {
		if l, e := segment.Find(row.b, row.saga); e != row.e || !sameRecs(l, row.want) {
			t.Errorf("%s: %+v, %d", row.name, l, e)
		}
	}
}

// Promise 7.6: a place that the index tells may lie within another record's data, if a good frame stands there: nothing else is looked at.
func TestFindWithin(t *testing.T) {
	inner := frameOf(end1())
	outer := api.Record{V: 1, Kind: api.KDone, Saga: 9, Data: join([]byte("ahead"), inner, []byte("behind"))}
	b := open(1, outer)
	at := bytes.Index(b, inner)
	if l, e := segment.Find(under(b, 1, api.Entry{Saga: 1, At: []int{at}}), 1); e != api.OK || !sameRecs(l, []api.Record{end1()}) {
		t.Errorf("%+v, %d", l, e)
	}
	if _, e := segment.Read(under(b, 1, api.Entry{Saga: 1, At: []int{at}})); e != api.ErrIndex {
		t.Errorf("Read: %d", e)
	}
	if s, e := segment.Read(sealed(1, outer)); e != api.OK || len(s.Recs) != 1 {
		t.Errorf("Read: %+v, %d", s, e)
	}
}

// Promise 7.6: a fault in one saga's frame is seen by Read and by Find of that saga, and by no other Find.
func TestFindBesideFaults(t *testing.T) {
	recs := some()
	at, end := places(recs...)
	for i, r := range recs {
		last := append(slices.Clone(at), end)[i+1]
		for k := at[i]; k < last; k++ {
			b := sealed(3, recs...)
			b[k] ^= 0x40
			if _, e := segment.Read(b); e != api.ErrRecord {
				t.Fatalf("byte %d: Read answers %d", k, e)
			}
			for _, saga := range []int{2, 300, api.MaxID} {
				l, e := segment.Find(b, saga)
				if saga == r.Saga && (e != api.ErrRecord || len(l) != 0) {
					t.Fatalf("byte %d: Find of its saga %d answers %+v, %d", k, saga, l, e)
				}
				own := slices.DeleteFunc(some(), func(x api.Record) bool { return x.Saga != saga })
				if saga != r.Saga && (e != api.OK || !sameRecs(l, own)) {
					t.Fatalf("byte %d: Find of saga %d answers %+v, %d", k, saga, l, e)
				}
			}
		}
	}
}

// overlap is a segment whose only record has the footer's beginning in its data: a good frame at 5 that goes beyond the footer's place, by a footer that is one. The record's sum and mark stand in the footer's index, as the lower bytes of a saga's number: so the data is drawn till the sum's bytes can stand there.
func overlap(t *testing.T) (b []byte, end int) {
	t.Helper()
	for nonce := range 10000 {
		start := join([]byte("X\x01"), []byte{2, 1, 1, 5}) // one record; two sagas; saga 1 at place 5; and the second saga's number
		rest := []byte{1, 1, 7}                            // which ends with 1; one place, 7
		size := len(start) + 5 + len(rest)                 // the sum and the mark of the record's frame between
		data := join([]byte{byte(nonce), byte(nonce >> 8)}, number(uint64(size)), start)
		f := frameOf(api.Record{V: 1, Kind: api.KDone, Saga: 1, Data: data})
		if tail := f[len(f)-5:]; slices.Min(tail) < 0x80 {
			continue
		}
		b := append(header(1), f...)
		foot := len(b) - 5 - len(start) - 1
		body := append(bytes.Clone(b[foot+1:]), rest...)
		return join(b[:foot], frame(body), trailer(foot)), len(b)
	}
	t.Fatal("no such segment was found")
	return nil, 0
}

// Promises 7.4 to 7.6: a frame that goes beyond the footer's place: to Scan it is good, Read and Find refuse it.
func TestFrameBeyondFooter(t *testing.T) {
	b, end := overlap(t)
	if _, _, entries, e := slowSeal(b); e != api.OK || len(entries) != 2 || !sameEntry(entries[0], api.Entry{Saga: 1, At: []int{5}}) {
		t.Fatalf("the footer is %+v, %d", entries, e)
	}
	s, e := segment.Scan(b)
	if e != api.OK || len(s.Recs) != 1 || s.At[0] != 5 || s.End != end || s.Sealed {
		t.Errorf("Scan: %+v, %d", s, e)
	}
	if _, e := segment.Read(b); e != api.ErrRecord {
		t.Errorf("Read: %d", e)
	}
	if l, e := segment.Find(b, 1); e != api.ErrRecord || len(l) != 0 {
		t.Errorf("Find: %+v, %d", l, e)
	}
	hold(t, b, map[api.Errno]int{})
}
