package index_test

import (
	"bytes"
	"encoding/hex"
	"math"
	"math/big"
	"math/rand"
	"slices"
	"strings"
	"testing"

	"annals/api"
	"annals/index"
	"annals/wire"
)

// unhex is bytes that are told in hexadecimal, two digits a byte.
func unhex(s string) []byte {
	b, err := hex.DecodeString(strings.ReplaceAll(s, " ", ""))
	if err != nil {
		panic(err)
	}
	return b
}

// row is a key with its offsets, in their order.
type row struct {
	key     int
	offsets []int
}

// offsetsOf is a Multi of rows.
func offsetsOf(rows ...row) *index.Multi[int] {
	m := index.New[int]()
	for _, r := range rows {
		for _, o := range r.offsets {
			m.Add(r.key, o)
		}
	}
	return m
}

// rowsOf is what a Multi of offsets holds, by rising key.
func rowsOf(m *index.Multi[int]) []row {
	var out []row
	for _, key := range m.Keys() {
		out = append(out, row{key, m.Get(key)})
	}
	return out
}

func sameRow(a, b row) bool { return a.key == b.key && slices.Equal(a.offsets, b.offsets) }

func sameRows(a, b []row) bool { return slices.EqualFunc(a, b, sameRow) }

// numbers writes numbers one behind the other.
func numbers(l ...uint64) []byte {
	var out []byte
	for _, n := range l {
		out = append(out, wire.Uint(n)...)
	}
	return out
}

// written is a second reading of 5.9, for rows by rising key that have no fault.
func written(rows []row) []byte {
	l := []uint64{uint64(len(rows))}
	key := 0
	for _, r := range rows {
		l = append(l, uint64(r.key-key), uint64(len(r.offsets)))
		key = r.key
		for i, o := range r.offsets {
			if i > 0 {
				o -= r.offsets[i-1]
			}
			l = append(l, uint64(o))
		}
	}
	return numbers(l...)
}

// drawRows is an index without a fault, with great and small steps between its numbers.
func drawRows(r *rand.Rand) []row {
	var rows []row
	key := 0
	for range r.Intn(8) {
		by := 1 + int(r.Uint64()>>(3+r.Intn(61)))
		if by > math.MaxInt-key {
			break
		}
		key += by
		x := row{key: key, offsets: []int{int(r.Uint64() >> (1 + r.Intn(63)))}}
		for range r.Intn(6) {
			last := x.offsets[len(x.offsets)-1]
			if by := 1 + int(r.Uint64()>>(3+r.Intn(61))); by <= math.MaxInt-last {
				x.offsets = append(x.offsets, last+by)
			}
		}
		rows = append(rows, x)
	}
	return rows
}

// Promise 5.9: the chapter's examples, and other indexes at their edges.
func TestEncode(t *testing.T) {
	rows := []struct {
		name string
		in   []row
		want string
		e    api.Errno
	}{
		{"the example", []row{{130, []int{9}}, {2, []int{5, 300}}}, "02 02 02 05 a7 02 80 01 01 09", api.OK},
		{"no key", nil, "00", api.OK},
		{"the least", []row{{1, []int{0}}}, "01 01 01 00", api.OK},
		{"offsets that lie beside one another", []row{{1, []int{0, 1, 2}}}, "01 01 03 00 01 01", api.OK},
		{"the greatest", []row{{math.MaxInt, []int{math.MaxInt}}}, "01 ffffffffffffffff7f 01 ffffffffffffffff7f", api.OK},
		{"the widest", []row{{1, []int{0, math.MaxInt}}, {math.MaxInt, []int{math.MaxInt - 1, math.MaxInt}}}, "02 01 02 00 ffffffffffffffff7f feffffffffffffff7f 02 feffffffffffffff7f 01", api.OK},
		{"one offset for two keys", []row{{1, []int{7}}, {2, []int{7}}}, "02 01 01 07 01 01 07", api.OK},
		{"a later key with lower offsets", []row{{1, []int{7, 9}}, {2, []int{0, 3}}}, "02 01 02 07 02 01 02 00 03", api.OK},

		{"the key 0", []row{{0, []int{5}}}, "", api.ErrKey},
		{"the key -1", []row{{-1, []int{5}}}, "", api.ErrKey},
		{"the least int as a key", []row{{math.MinInt, []int{5}}}, "", api.ErrKey},
		{"an offset twice", []row{{2, []int{5, 5}}}, "", api.ErrOffset},
		{"0 twice", []row{{2, []int{0, 0}}}, "", api.ErrOffset},
		{"the greatest twice", []row{{2, []int{math.MaxInt, math.MaxInt}}}, "", api.ErrOffset},
		{"a first offset below 0", []row{{2, []int{-1}}}, "", api.ErrOffset},
		{"the least int as an offset", []row{{2, []int{math.MinInt}}}, "", api.ErrOffset},
		{"falling", []row{{2, []int{5, 4}}}, "", api.ErrOffset},
		{"falling far", []row{{2, []int{math.MaxInt, math.MinInt}}}, "", api.ErrOffset},
		{"falling to 0", []row{{2, []int{1, 0}}}, "", api.ErrOffset},
		{"falling later", []row{{2, []int{5, 6, 9, 8, 10}}}, "", api.ErrOffset},
		{"below 0 behind a rise", []row{{2, []int{5, -1}}}, "", api.ErrOffset},
		{"a fault in the last key", []row{{1, []int{1}}, {2, []int{2}}, {3, []int{3, 3}}}, "", api.ErrOffset},

		{"key and offset of one key", []row{{0, []int{-1}}}, "", api.ErrKey},
		{"key and later offset of one key", []row{{-3, []int{5, 5}}}, "", api.ErrKey},
		{"the least key decides: the key", []row{{3, []int{-1}}, {0, []int{1}}}, "", api.ErrKey},
		{"the least key decides: the key, its offsets good", []row{{0, []int{1}}, {-2, []int{4, 4}}}, "", api.ErrKey},
		{"the least key decides: the offset", []row{{5, []int{1}}, {2, []int{3, 3}}, {9, []int{-1}}}, "", api.ErrOffset},
	}
	for _, row := range rows {
		m := offsetsOf(row.in...)
		was := rowsOf(m)
		b, e := index.Encode(m)
		if e != row.e || !bytes.Equal(b, unhex(row.want)) {
			t.Errorf("%s: % x, %d", row.name, b, e)
		}
		if !sameRows(rowsOf(m), was) {
			t.Errorf("%s: the Multi became %v", row.name, rowsOf(m))
		}
	}
	if b, e := index.Encode(nil); len(b) != 0 || e != api.ErrArg {
		t.Errorf("nil: % x, %d", b, e)
	}
}

// Promise 5.9: a Multi whose keys were dropped is written as if they had never been.
func TestEncodeAfterDrop(t *testing.T) {
	m := offsetsOf(row{-5, []int{1}}, row{2, []int{5, 5}}, row{3, []int{8}})
	m.Drop(-5)
	m.Drop(2)
	m.Add(2, 4)
	if b, e := index.Encode(m); e != api.OK || !bytes.Equal(b, unhex("02 02 01 04 01 01 08")) {
		t.Errorf("% x, %d", b, e)
	}
	m.Drop(2)
	m.Drop(3)
	if b, e := index.Encode(m); e != api.OK || !bytes.Equal(b, []byte{0}) {
		t.Errorf("% x, %d", b, e)
	}
}

// Promise 5.10: the chapter's examples, and every error at the number that brings it.
func TestDecode(t *testing.T) {
	const top = "ffffffffffffffff7f"    // 2^63 - 1
	const over = "80808080808080808001" // 2^63
	const all = "ffffffffffffffffff01"  // 2^64 - 1
	rows := []struct {
		b    string
		want []row
		e    api.Errno
	}{
		{"00", nil, api.OK},
		{"02 02 02 05 a7 02 80 01 01 09", []row{{2, []int{5, 300}}, {130, []int{9}}}, api.OK},
		{"01 01 01 00", []row{{1, []int{0}}}, api.OK},
		{"01" + top + "01" + top, []row{{math.MaxInt, []int{math.MaxInt}}}, api.OK},
		{"02 01 02 00" + top + "feffffffffffffff7f 02 feffffffffffffff7f 01", []row{{1, []int{0, math.MaxInt}}, {math.MaxInt, []int{math.MaxInt - 1, math.MaxInt}}}, api.OK},
		{"02 01 01 07 01 01 00", []row{{1, []int{7}}, {2, []int{0}}}, api.OK},

		// The number of keys.
		{"", nil, api.ErrShort},
		{"80", nil, api.ErrShort},
		{"80 00", nil, api.ErrMinimal},
		{"808080808080808080 02", nil, api.ErrWide},
		{"01", nil, api.ErrShort},
		{"02 01 01 00", nil, api.ErrShort},
		{all, nil, api.ErrShort},
		{all + "01 01 00 01 01 00", nil, api.ErrShort},

		// A key.
		{"01 00 01 01", nil, api.ErrKey},
		{"01 00", nil, api.ErrKey},
		{"01 00 80 00", nil, api.ErrKey},
		{"01" + over + "01 00", nil, api.ErrKey},
		{"01" + over, nil, api.ErrKey},
		{"01" + all, nil, api.ErrKey},
		{"02 01 01 00 00", nil, api.ErrKey},
		{"02 01 01 00" + top, nil, api.ErrKey},
		{"02 02 01 00" + all, nil, api.ErrKey},
		{"02" + top + "01 00 01", nil, api.ErrKey},
		{"01 80 00", nil, api.ErrMinimal},
		{"01 808080808080808080 80", nil, api.ErrWide},
		{"01 80", nil, api.ErrShort},

		// A number of offsets.
		{"01 02 00", nil, api.ErrValues},
		{"01 02 00 05", nil, api.ErrValues},
		{"02 01 01 00 01 00", nil, api.ErrValues},
		{"01 02", nil, api.ErrShort},
		{"01 02 81 00", nil, api.ErrMinimal},
		{"01 02 ffffffffffffffffff 02", nil, api.ErrWide},
		{"01 02" + all, nil, api.ErrShort},
		{"01 02" + all + "00 01 01", nil, api.ErrShort},

		// A first offset.
		{"01 02 01", nil, api.ErrShort},
		{"01 02 01" + over, nil, api.ErrOffset},
		{"01 02 02" + all, nil, api.ErrOffset},
		{"01 02 01 80 00", nil, api.ErrMinimal},
		{"01 02 01 ffffffffffffffffff 03", nil, api.ErrWide},

		// A further one.
		{"01 02 02 05", nil, api.ErrShort},
		{"01 02 02 05 00", nil, api.ErrOffset},
		{"01 02 02 00 00", nil, api.ErrOffset},
		{"01 02 02 01" + top, nil, api.ErrOffset},
		{"01 02 02 00" + over, nil, api.ErrOffset},
		{"01 02 02 05" + all, nil, api.ErrOffset},
		{"01 02 02" + top + "01", nil, api.ErrOffset},
		{"01 02 03 05 01 00", nil, api.ErrOffset},
		{"01 02 02 05 80 00", nil, api.ErrMinimal},
		{"01 02 02 05 ffffffffffffffffff 02", nil, api.ErrWide},

		// Bytes left over.
		{"00 00", nil, api.ErrRest},
		{"00 80", nil, api.ErrRest},
		{"01 01 01 00 01", nil, api.ErrRest},
		{"01 01 01 00 80 00", nil, api.ErrRest},

		// The first number with which something is wrong decides.
		{"01 00 00 00 00", nil, api.ErrKey},
		{"01 01 00" + over, nil, api.ErrValues},
		{"02 01 02 03 00 00", nil, api.ErrOffset},
		{"01 02 02" + over + "00", nil, api.ErrOffset},
	}
	for _, row := range rows {
		m, e := index.Decode(unhex(row.b))
		if e != row.e || (m == nil) != (e != api.OK) {
			t.Errorf("%s: %v, %d, not %d", row.b, m, e, row.e)
			continue
		}
		if m != nil && !sameRows(rowsOf(m), row.want) {
			t.Errorf("%s: %v", row.b, rowsOf(m))
		}
	}
}

// slow is a second reading of 5.10: all numbers that stand there first, then what each of them means, in numbers without a bound.
func slow(b []byte) ([]row, api.Errno) {
	var l []*big.Int
	at, end := 0, api.OK
	ends := []int{}
	for end == api.OK {
		v, next, e := wire.ReadUint(b, at)
		if end = e; e == api.OK {
			l, at = append(l, new(big.Int).SetUint64(v)), next
			ends = append(ends, at)
		}
	}
	top := big.NewInt(math.MaxInt64)
	rows := []row{}
	i := 0
	take := func() *big.Int { i++; return l[i-1] }
	if i == len(l) {
		return nil, end
	}
	keys, key := take(), new(big.Int)
	for n := new(big.Int); n.Cmp(keys) < 0; n.Add(n, big.NewInt(1)) {
		if i == len(l) {
			return nil, end
		}
		by := take()
		if key.Add(key, by); by.Sign() == 0 || key.Cmp(top) > 0 {
			return nil, api.ErrKey
		}
		if i == len(l) {
			return nil, end
		}
		count, offset := take(), new(big.Int)
		if count.Sign() == 0 {
			return nil, api.ErrValues
		}
		x := row{key: int(key.Int64())}
		for k := new(big.Int); k.Cmp(count) < 0; k.Add(k, big.NewInt(1)) {
			if i == len(l) {
				return nil, end
			}
			by := take()
			if offset.Add(offset, by); offset.Cmp(top) > 0 || k.Sign() > 0 && by.Sign() == 0 {
				return nil, api.ErrOffset
			}
			x.offsets = append(x.offsets, int(offset.Int64()))
		}
		rows = append(rows, x)
	}
	if ends[i-1] != len(b) {
		return nil, api.ErrRest
	}
	return rows, api.OK
}

// hold decodes bytes, holds the answer against the slow reading, and, if they are read, writes them again.
func hold(t *testing.T, b []byte) api.Errno {
	t.Helper()
	want, e := slow(b)
	m, got := index.Decode(b)
	if got != e || (m == nil) != (e != api.OK) {
		t.Fatalf("% x: %v, %d, not %d", b, m, got, e)
	}
	if m == nil {
		return e
	}
	if !sameRows(rowsOf(m), want) {
		t.Fatalf("% x: %v, not %v", b, rowsOf(m), want)
	}
	if again, e := index.Encode(m); e != api.OK || !bytes.Equal(again, b) {
		t.Fatalf("% x is written as % x, %d", b, again, e)
	}
	return e
}

// Promises 5.10 and 5.11: all short byte strings, of all bytes and of those that matter most: what Decode reads, Encode writes as just those bytes.
func TestShortBytes(t *testing.T) {
	seen := map[api.Errno]int{}
	var each func(letters, ahead []byte, n int)
	each = func(letters, ahead []byte, n int) {
		seen[hold(t, ahead)]++
		if n == 0 {
			return
		}
		for _, c := range letters {
			each(letters, append(slices.Clone(ahead), c), n-1)
		}
	}
	var whole []byte
	for c := range 256 {
		whole = append(whole, byte(c))
	}
	each(whole, nil, 2)
	each([]byte{0, 1, 2, 0x7f, 0x80}, nil, 7)
	for _, e := range []api.Errno{api.OK, api.ErrShort, api.ErrMinimal, api.ErrKey, api.ErrValues, api.ErrOffset, api.ErrRest} {
		if seen[e] == 0 {
			t.Errorf("no bytes were answered with %d", e)
		}
	}
}

// Promises 5.9 to 5.11: what Encode writes is what the chapter says, Decode reads it as what it was, and nothing less and nothing more than it.
func TestThereAndBack(t *testing.T) {
	r := rand.New(rand.NewSource(1))
	for range 3000 {
		rows := drawRows(r)
		shuffled := slices.Clone(rows)
		r.Shuffle(len(shuffled), func(i, k int) { shuffled[i], shuffled[k] = shuffled[k], shuffled[i] })
		b, e := index.Encode(offsetsOf(shuffled...))
		if e != api.OK || !bytes.Equal(b, written(rows)) {
			t.Fatalf("%v is written as % x, %d", rows, b, e)
		}
		m, e := index.Decode(b)
		if e != api.OK || !sameRows(rowsOf(m), rows) {
			t.Fatalf("%v comes back as %v, %d", rows, m, e)
		}
		for k := range b {
			if m, e := index.Decode(b[:k]); m != nil || e != api.ErrShort {
				t.Fatalf("the first %d bytes of % x: %v, %d", k, b, m, e)
			}
		}
		if m, e := index.Decode(append(b, byte(r.Intn(256)))); m != nil || e != api.ErrRest {
			t.Fatalf("a byte behind % x: %v, %d", b, m, e)
		}
	}
}

// Promises 5.10 and 5.11: bytes that are nearly an index, and any bytes.
func TestBrokenBytes(t *testing.T) {
	r := rand.New(rand.NewSource(2))
	odd := []byte{0, 1, 2, 0x7f, 0x80, 0x81, 0xff}
	for range 20000 {
		b := written(drawRows(r))
		for range 1 + r.Intn(2) {
			b[r.Intn(len(b))] = odd[r.Intn(len(odd))]
		}
		hold(t, b)
		any := make([]byte, r.Intn(24))
		r.Read(any)
		hold(t, any)
		few := []uint64{uint64(r.Intn(3))}
		for range r.Intn(9) {
			few = append(few, []uint64{0, 1, 2, 3, 1<<63 - 1, 1 << 63, math.MaxUint64, r.Uint64() >> 1}[r.Intn(8)])
		}
		hold(t, numbers(few...))
	}
}

// Promise 5.11: what was decoded is a Multi as any other: it may be added to and dropped from.
func TestDecodedIsAMulti(t *testing.T) {
	m, _ := index.Decode(unhex("02 02 02 05 a7 02 80 01 01 09"))
	other, _ := index.Decode([]byte{0})
	m.Add(130, 10)
	m.Add(-1, 4)
	other.Add(7, 1)
	if m.Len() != 5 || !slices.Equal(m.Keys(), []int{-1, 2, 130}) || !slices.Equal(m.Get(130), []int{9, 10}) {
		t.Errorf("%v", rowsOf(m))
	}
	if m.Drop(-1) != 1 || m.Drop(2) != 2 || other.Len() != 1 {
		t.Errorf("%v, %v", rowsOf(m), rowsOf(other))
	}
	if b, e := index.Encode(m); e != api.OK || !bytes.Equal(b, unhex("01 82 01 02 09 01")) {
		t.Errorf("% x, %d", b, e)
	}
}

// Promise 5.12: a great index goes there and back.
func TestGreatIndex(t *testing.T) {
	var rows []row
	for key := range 100000 {
		rows = append(rows, row{key*3 + 1, []int{key, key + 5}})
	}
	one := row{key: 400000}
	for i := range 200000 {
		one.offsets = append(one.offsets, i*i)
	}
	rows = append(rows, one)
	b, e := index.Encode(offsetsOf(rows...))
	if e != api.OK || !bytes.Equal(b, written(rows)) {
		t.Fatalf("%d bytes, %d", len(b), e)
	}
	if m, e := index.Decode(b); e != api.OK || !sameRows(rowsOf(m), rows) {
		t.Errorf("it comes back otherwise, %d", e)
	}
}
