package record_test

import (
	"bytes"
	"encoding/binary"
	"encoding/hex"
	"math"
	"math/rand"
	"strings"
	"testing"

	"annals/api"
	"annals/record"
)

// unhex reads bytes as the document tells them.
func unhex(t *testing.T, s string) []byte {
	t.Helper()
	b, err := hex.DecodeString(strings.ReplaceAll(s, " ", ""))
	if err != nil {
		t.Fatal(err)
	}
	return b
}

// Promise 3.3: the bytes of the document's examples, and of each field at its edges.
func TestEncode(t *testing.T) {
	const maxUint = "ff ff ff ff ff ff ff ff 7f"
	rows := []struct {
		r    api.Record
		want string
	}{
		{api.Record{V: 1, Kind: 7, Saga: 1}, "01 07 02 01"},
		{api.Record{V: 1, Kind: 1, Saga: 300, Step: 2, Data: []byte("buy")}, "01 01 02 ac 02 03 02 0b 03 62 75 79"},
		{api.Record{V: 2, Kind: 2, Saga: 5, Try: 1}, "01 02 02 05 04 01"},
		{api.Record{V: 3, Kind: 4, Saga: 5, Step: 1, At: 9, Last: 1, Code: -2}, "01 04 02 05 03 01 05 09 06 01 07 03"},
		{api.Record{V: 3, Kind: 1, Saga: 5, Count: 3, Pivot: 2, Name: "buy"}, "01 01 02 05 08 03 09 02 0a 03 62 75 79"},
		{api.Record{V: 3, Kind: 7, Saga: api.MaxID, At: api.MaxID, Code: 2}, "01 07 02 " + maxUint + " 05 " + maxUint + " 07 04"},
		{api.Record{V: 2, Kind: 5, Saga: 128, Step: 31, Try: 1000, At: 127}, "01 05 02 80 01 03 1f 04 e8 07 05 7f"},
		{api.Record{V: 3, Kind: 4, Saga: 1, Code: math.MinInt}, "01 04 02 01 07 ff ff ff ff ff ff ff ff ff 01"},
		{api.Record{V: 3, Kind: 4, Saga: 1, Code: math.MaxInt}, "01 04 02 01 07 fe ff ff ff ff ff ff ff ff 01"},
		{api.Record{V: 3, Kind: 4, Saga: 1, Code: 64, Data: []byte{0}}, "01 04 02 01 07 80 01 0b 01 00"},
		{api.Record{V: 3, Kind: 1, Saga: 5, At: 1, Count: 32, Pivot: 32, Name: "\u00e9", Data: []byte("\xff")}, "01 01 02 05 05 01 08 20 09 20 0a 02 c3 a9 0b 01 ff"},
		{api.Record{V: 3, Kind: 6, Saga: 1, Data: []byte{}}, "01 06 02 01"},
	}
	for _, row := range rows {
		want := unhex(t, row.want)
		b, e := record.Encode(row.r)
		n, e2 := record.Size(row.r)
		if !bytes.Equal(b, want) || e != api.OK || n != len(want) || e2 != api.OK {
			t.Errorf("%+v is written as % x, %d (size %d, %d), not % x", row.r, b, e, n, e2, want)
		}
		if got, e := record.Decode(row.r.V, want); !equal(got, row.r) || e != api.OK {
			t.Errorf("Decode(%d, % x) = %+v, %d", row.r.V, want, got, e)
		}
	}
}

// slowEncode writes a record by the library's own numbers.
func slowEncode(r api.Record) []byte {
	var out []byte
	for i, n := range []int{r.Kind, r.Saga, r.Step, r.Try, r.At, r.Last, r.Code, r.Count, r.Pivot} {
		if n == 0 {
			continue
		}
		out = append(out, byte(i+1))
		if i+1 == 7 {
			out = binary.AppendVarint(out, int64(n))
		} else {
			out = binary.AppendUvarint(out, uint64(n))
		}
	}
	for i, s := range []string{r.Name, string(r.Data)} {
		if s != "" {
			out = append(out, byte(i+10))
			out = binary.AppendUvarint(out, uint64(len(s)))
			out = append(out, s...)
		}
	}
	return out
}

// Promises 3.3 and 3.5: a valid record is written as the document says, its size is told, and it is read again.
func TestWrittenAndReadAgain(t *testing.T) {
	r := rand.New(rand.NewSource(6))
	eachForm(func(v, kind int) {
		for range 300 {
			x := draw(r, v, kind)
			b, e := record.Encode(x)
			n, e2 := record.Size(x)
			if !bytes.Equal(b, slowEncode(x)) || e != api.OK || n != len(b) || e2 != api.OK {
				t.Fatalf("%+v is written as % x, %d (size %d, %d)", x, b, e, n, e2)
			}
			if got, e := record.Decode(v, b); !equal(got, x) || e != api.OK {
				t.Fatalf("%+v is read again as %+v, %d", x, got, e)
			}
		}
		great := plain(v, kind)
		if kind == api.KDone || kind == api.KFail || kind == api.KUndone {
			great.Data = bytes.Repeat([]byte{0xa5}, api.MaxData)
		}
		b, e := record.Encode(great)
		if got, e2 := record.Decode(v, b); e != api.OK || e2 != api.OK || !equal(got, great) {
			t.Errorf("version %d, kind %d: the greatest data is not read again: %d, %d", v, kind, e, e2)
		}
	})
}

// Promise 3.4: the document's examples, and each error where it first can be.
func TestDecode(t *testing.T) {
	const beyond = "80 80 80 80 80 80 80 80 80 01" // 2^63
	const wide = "ff ff ff ff ff ff ff ff ff 02"
	rows := []struct {
		v int
		b string
		r api.Record
		e api.Errno
	}{
		{1, "", api.Record{}, api.ErrKind},
		{1, "01 07 02 01", api.Record{V: 1, Kind: 7, Saga: 1}, api.OK},
		{1, "02 01 01 07", api.Record{}, api.ErrTag},
		{1, "01 07 02 01 05 00", api.Record{}, api.ErrZero},
		{1, "01 07 02 01 05 09", api.Record{}, api.ErrExtra},
		{2, "01 07 02 01 05 09", api.Record{V: 2, Kind: 7, Saga: 1, At: 9}, api.OK},
		{3, "01 07 02 01 07 01", api.Record{}, api.ErrBound},
		{3, "01 07 02 81 00", api.Record{}, api.ErrMinimal},
		{3, "01 07 02", api.Record{}, api.ErrShort},
		{3, "01 07 02 ff ff ff ff ff ff ff ff ff 01", api.Record{}, api.ErrBound},
		// the version comes first
		{0, "00", api.Record{}, api.ErrVersion},
		{4, "", api.Record{}, api.ErrVersion},
		{math.MinInt, "01 07 02 01", api.Record{}, api.ErrVersion},
		{math.MaxInt, "01 07 02 01", api.Record{}, api.ErrVersion},
		// tags
		{1, "00", api.Record{}, api.ErrTag},
		{1, "0c", api.Record{}, api.ErrTag},
		{1, "0c 01", api.Record{}, api.ErrTag},
		{1, "8b 01", api.Record{}, api.ErrTag},
		{1, "01 07 02 01 00", api.Record{}, api.ErrTag},
		{1, "01 07 01 07", api.Record{}, api.ErrTag},
		{1, "01 07 02 01 02 01", api.Record{}, api.ErrTag},
		{1, "01 07 02 01 0c", api.Record{}, api.ErrTag},
		{1, "01 07 02 01 81 02", api.Record{}, api.ErrTag},
		{3, "01 03 02 01 0b 01 61 0b 01 61", api.Record{}, api.ErrTag},
		{3, "01 07 02 01 ff ff ff ff ff ff ff ff ff 01", api.Record{}, api.ErrTag},
		{3, "01 07 02 01 83 80 80 80 80 80 80 80 80 01", api.Record{}, api.ErrTag},
		{1, "81 00", api.Record{}, api.ErrMinimal},
		{1, "80", api.Record{}, api.ErrShort},
		{1, wide, api.Record{}, api.ErrWide},
		{1, "01 07 02 01 85 00 09", api.Record{}, api.ErrMinimal},
		{1, "01 07 02 01 85", api.Record{}, api.ErrShort},
		// values: the number's errors, in each kind of field
		{1, "01", api.Record{}, api.ErrShort},
		{1, "01 87", api.Record{}, api.ErrShort},
		{1, "01 07 02 " + wide, api.Record{}, api.ErrWide},
		{3, "01 04 02 01 07", api.Record{}, api.ErrShort},
		{3, "01 04 02 01 07 83 00", api.Record{}, api.ErrMinimal},
		{3, "01 04 02 01 07 " + wide, api.Record{}, api.ErrWide},
		{3, "01 04 02 01 07 " + beyond, api.Record{V: 3, Kind: 4, Saga: 1, Code: 1 << 62}, api.OK},
		{3, "01 04 02 01 0b", api.Record{}, api.ErrShort},
		{3, "01 04 02 01 0b 02 61", api.Record{}, api.ErrShort},
		{3, "01 04 02 01 0b 81 00 61", api.Record{}, api.ErrMinimal},
		{3, "01 04 02 01 0b " + wide, api.Record{}, api.ErrWide},
		{3, "01 01 02 01 08 01 0a", api.Record{}, api.ErrShort},
		{3, "01 01 02 01 08 01 0a 02 61", api.Record{}, api.ErrShort},
		{3, "01 01 02 01 08 01 0a 81 00 61", api.Record{}, api.ErrMinimal},
		{3, "01 01 02 01 08 01 0a " + wide, api.Record{}, api.ErrWide},
		// the field's value is looked at as soon as it is read
		{1, "01 00", api.Record{}, api.ErrZero},
		{1, "01 07 02 00", api.Record{}, api.ErrZero},
		{1, "01 07 02 01 07 00", api.Record{}, api.ErrZero},
		{1, "01 07 02 01 0a 00", api.Record{}, api.ErrZero},
		{1, "01 07 02 01 0b 00", api.Record{}, api.ErrZero},
		{1, "01 00 00", api.Record{}, api.ErrZero},
		{1, "01 07 02 00 02 01", api.Record{}, api.ErrZero},
		{1, "01 07 02 01 07 00 80", api.Record{}, api.ErrZero},
		// what the bytes are comes ahead of what the record holds
		{1, "01 09 02 01 05 00", api.Record{}, api.ErrZero},
		{1, "01 09 02 01 00", api.Record{}, api.ErrTag},
		{1, "05 09 03 63 0b 05 61", api.Record{}, api.ErrTag},
		{1, "03 63 05 09 0b 05 61", api.Record{}, api.ErrShort},
		{1, "01 07 02 01 03 " + beyond, api.Record{}, api.ErrBound},
		{1, "01 07 02 " + beyond + " 05 00", api.Record{}, api.ErrBound},
		{1, "01 07 02 01 03 00 04 " + beyond, api.Record{}, api.ErrZero},
		// and then the errors of Check, in its order
		{3, "01 07", api.Record{}, api.ErrID},
		{3, "02 01", api.Record{}, api.ErrKind},
		{3, "01 08 02 01", api.Record{}, api.ErrKind},
		{3, "01 ff ff ff ff ff ff ff ff 7f 02 01", api.Record{}, api.ErrKind},
		{1, "03 63 05 09", api.Record{}, api.ErrKind},
		{1, "01 02 02 05 03 20", api.Record{}, api.ErrBound},
		{1, "01 02 02 05 03 1f 04 01", api.Record{}, api.ErrExtra},
		{2, "01 02 02 05", api.Record{}, api.ErrBound},
		{2, "01 01 02 01 08 01 0a 01 31", api.Record{}, api.ErrLabel},
		{2, "01 01 02 01 08 01", api.Record{}, api.ErrLabel},
		{1, "01 01 02 01 03 01 0b 01 31", api.Record{}, api.ErrLabel},
		{1, "01 01 02 01 03 01", api.Record{}, api.ErrLabel},
		{3, "01 01 02 05 08 03 09 04 0a 03 62 75 79", api.Record{}, api.ErrBound},
		{2, "01 01 02 05 08 03 09 02 0a 03 62 75 79", api.Record{}, api.ErrExtra},
		{3, "01 07 02 01 07 06", api.Record{}, api.ErrBound},
		{2, "01 07 02 01 07 02", api.Record{}, api.ErrExtra},
	}
	for _, row := range rows {
		if got, e := record.Decode(row.v, unhex(t, row.b)); !equal(got, row.r) || e != row.e {
			t.Errorf("Decode(%d, %s) = %+v, %d, not %+v, %d", row.v, row.b, got, e, row.r, row.e)
		}
	}
}

// Promise 3.4: a number above MaxID is ErrBound in every field that is one, in each version, whether the field may stand or not.
func TestNumbersBeyond(t *testing.T) {
	for v := 1; v <= 3; v++ {
		for _, tag := range []byte{1, 2, 3, 4, 5, 6, 8, 9} {
			b := binary.AppendUvarint([]byte{tag}, 1<<63)
			if got, e := record.Decode(v, b); !equal(got, api.Record{}) || e != api.ErrBound {
				t.Errorf("Decode(%d, % x) = %+v, %d", v, b, got, e)
			}
			b = binary.AppendUvarint([]byte{tag}, 1<<63-1)
			if _, e := record.Decode(v, b); e != api.ErrKind {
				t.Errorf("Decode(%d, % x): error %d", v, b, e)
			}
		}
	}
}

// Promise 3.4: the bounds of names and data in bytes.
func TestLongStrings(t *testing.T) {
	with := func(head string, n int, fill byte) []byte {
		return append(binary.AppendUvarint(unhex(t, head), uint64(n)), bytes.Repeat([]byte{fill}, n)...)
	}
	const named, data, old = "01 01 02 01 08 01 0a", "01 03 02 01 0b", "01 01 02 01 03 01 0b"
	rows := []struct {
		v int
		b []byte
		e api.Errno
	}{
		{3, with(named, 48, 'a'), api.OK},
		{3, with(named, 49, 'a'), api.ErrLabel},
		{3, with(named, 192, 'a'), api.ErrLabel},
		{3, with(named, 193, 'a'), api.ErrOver},
		{3, with(named, 193, 'a')[:20], api.ErrOver},
		{3, with(named, 192, 'a')[:20], api.ErrShort},
		{1, with(named, 193, 'a'), api.ErrOver}, // ahead of ErrExtra
		{3, with(data, api.MaxData, 0), api.OK},
		{3, with(data, api.MaxData+1, 0), api.ErrOver},
		{3, with(data, api.MaxData+1, 0)[:20], api.ErrOver},
		{3, with(data, api.MaxData, 0)[:20], api.ErrShort},
		{1, with(old, 48, 'a'), api.OK},
		{1, with(old, 193, 'a'), api.ErrLabel},
		{1, with(old, api.MaxData, 'a'), api.ErrLabel},
		{1, with(old, api.MaxData+1, 'a'), api.ErrOver},
		{3, append(unhex(t, data), bytes.Repeat([]byte{0xff}, 10)...), api.ErrWide},
		{3, binary.AppendUvarint(unhex(t, data), math.MaxUint64), api.ErrOver},
		{3, binary.AppendUvarint(unhex(t, named), math.MaxUint64), api.ErrOver},
	}
	for i, row := range rows {
		got, e := record.Decode(row.v, row.b)
		if e != row.e || e != api.OK && !equal(got, api.Record{}) {
			t.Errorf("row %d: % x.. (%d bytes): error %d, not %d", i, row.b[:9], len(row.b), e, row.e)
		}
	}
	long := strings.Repeat("\U00010400", 48)
	b := append(binary.AppendUvarint(unhex(t, named), 192), long...)
	if got, e := record.Decode(2, b); e != api.OK || got.Name != long {
		t.Errorf("a name of 192 bytes: %d", e)
	}
}

// oneWriting holds that what is read of b is what would be written as b, and is valid; and that version 3 reads what version 2 does.
func oneWriting(t *testing.T, v int, b []byte) bool {
	t.Helper()
	r, e := record.Decode(v, b)
	if e != api.OK {
		if !equal(r, api.Record{}) {
			t.Fatalf("Decode(%d, % x) = %+v beside %d", v, b, r, e)
		}
		return false
	}
	w, e := record.Encode(r)
	if !bytes.Equal(w, b) || e != api.OK || r.V != v || record.Check(r) != api.OK || slowCheck(r) != api.OK {
		t.Fatalf("Decode(%d, % x) = %+v, which is written as % x, %d", v, b, r, w, e)
	}
	if v == 2 {
		up, e := record.Decode(3, b)
		if r.V = 3; e != api.OK || !equal(up, r) {
			t.Fatalf("Decode(3, % x) = %+v, %d, not %+v", b, up, e, r)
		}
	}
	return true
}

// Promises 3.5 and 3.6: all short byte strings over small numbers.
func TestOneWritingOfAllShort(t *testing.T) {
	read := 0
	for kind := byte(0); kind <= 9; kind++ {
		for code := range 14 * 14 * 14 * 14 {
			b := []byte{1, kind, 2, 1, byte(code % 14), byte(code / 14 % 14), byte(code / 196 % 14), byte(code / 2744)}
			for _, n := range []int{5, 6, 7, 8} {
				if n < 8 && code >= 2744 || n < 7 && code >= 196 {
					continue
				}
				for v := 1; v <= 3; v++ {
					if oneWriting(t, v, b[:n]) {
						read++
					}
				}
			}
		}
	}
	if read < 100 {
		t.Errorf("only %d were read", read)
	}
}

// Promises 3.5 and 3.6: the bytes of valid records, in every version, whole, cut, and with a byte changed.
func TestOneWritingOfChanged(t *testing.T) {
	r := rand.New(rand.NewSource(7))
	read := 0
	for range 40000 {
		x := draw(r, 1+r.Intn(3), 1+r.Intn(7))
		b, _ := record.Encode(x)
		switch r.Intn(4) {
		case 0:
			b[r.Intn(len(b))] = byte(r.Intn(256))
		case 1:
			b[r.Intn(min(12, len(b)))] = byte(r.Intn(13))
		case 2:
			b = b[:r.Intn(len(b))]
		}
		for v := 1; v <= 3; v++ {
			if oneWriting(t, v, b) {
				read++
			}
		}
	}
	if read < 1000 {
		t.Errorf("only %d were read", read)
	}
}

// Promise 3.6: every valid record of version 2 is one of version 3, in the same bytes; not so the reverse.
func TestNewerReadsOlder(t *testing.T) {
	r := rand.New(rand.NewSource(8))
	for kind := api.KBegin; kind <= api.KEnd; kind++ {
		for range 300 {
			x := draw(r, 2, kind)
			b, _ := record.Encode(x)
			x.V = 3
			if got, e := record.Decode(3, b); e != api.OK || !equal(got, x) {
				t.Fatalf("Decode(3, % x) = %+v, %d, not %+v", b, got, e, x)
			}
		}
	}
	for _, x := range []api.Record{
		{V: 3, Kind: 1, Saga: 5, Count: 3, Pivot: 2, Name: "buy"},
		{V: 3, Kind: 4, Saga: 5, Last: 1, Code: 9},
		{V: 3, Kind: 7, Saga: 5, Code: 1},
	} {
		b, _ := record.Encode(x)
		if got, e := record.Decode(2, b); e != api.ErrExtra || !equal(got, api.Record{}) {
			t.Errorf("Decode(2, % x) = %+v, %d", b, got, e)
		}
	}
}
