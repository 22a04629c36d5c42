package record_test

import (
	"math"
	"math/rand"
	"slices"
	"strings"
	"testing"

	"annals/api"
	"annals/record"
	"annals/text"
)

// refused holds that Check, Encode and Size all answer the error e of r, or none of them.
func refused(t *testing.T, r api.Record, e api.Errno) {
	t.Helper()
	got := record.Check(r)
	b, e2 := record.Encode(r)
	n, e3 := record.Size(r)
	if len(r.Data) > 99 {
		r.Data = r.Data[:99]
	}
	if got != e || e2 != e || e3 != e {
		t.Errorf("%+v: Check %d, Encode %d, Size %d, not %d", r, got, e2, e3, e)
	}
	if (e == api.OK) != (len(b) > 0) || n != len(b) {
		t.Errorf("%+v: error %d, bytes % x, size %d", r, e, b, n)
	}
}

// Promise 3.2: what is valid, with its least and its greatest values.
func TestValid(t *testing.T) {
	eachForm(func(v, kind int) { refused(t, plain(v, kind), api.OK) })
	r := rand.New(rand.NewSource(4))
	eachForm(func(v, kind int) {
		for range 200 {
			x := draw(r, v, kind)
			if e := record.Check(x); e != api.OK {
				t.Fatalf("%+v is refused: %d", x, e)
			}
		}
	})
}

// Promise 3.2: the version, the kind and the id come first, in this order.
func TestHeadsOfRecords(t *testing.T) {
	for _, v := range []int{math.MinInt, -1, 0, 4, 5, 257, math.MaxInt} {
		refused(t, api.Record{V: v, Kind: 7, Saga: 1}, api.ErrVersion)
		refused(t, api.Record{V: v, Kind: 9, Saga: -1, Step: 99}, api.ErrVersion)
		refused(t, api.Record{V: v}, api.ErrVersion)
	}
	for v := 1; v <= 3; v++ {
		for _, kind := range []int{math.MinInt, -1, 0, 8, 9, 257, math.MaxInt} {
			refused(t, api.Record{V: v, Kind: kind, Saga: 1}, api.ErrKind)
			refused(t, api.Record{V: v, Kind: kind, Saga: 0, Step: 99}, api.ErrKind)
		}
	}
	eachForm(func(v, kind int) {
		for _, id := range []int{math.MinInt, -1, 0} {
			r := plain(v, kind)
			r.Saga = id
			refused(t, r, api.ErrID)
			r.Step, r.Pivot = 99, 99
			refused(t, r, api.ErrID)
		}
		for _, id := range []int{1, 2, math.MaxInt - 1, math.MaxInt} {
			r := plain(v, kind)
			r.Saga = id
			refused(t, r, api.OK)
		}
	})
}

// limits are the least and the greatest value of a number's field where it may stand.
func limits(v, kind, tag int) (int, int) {
	switch tag {
	case 3:
		if v == 1 && kind == api.KBegin {
			return 1, 32
		}
		return 0, 31
	case 4:
		return 1, 1000
	case 6:
		return 0, 1
	case 7:
		if kind == api.KEnd {
			return 0, 2
		}
		return math.MinInt, math.MaxInt
	case 8:
		return 1, 32
	case 9:
		return 0, 3 // the Count of a plain begin
	}
	return 0, math.MaxInt
}

// Promise 3.2: each number's field at its bounds and beyond them; where it may not stand, anything but zero is too much.
func TestBounds(t *testing.T) {
	eachForm(func(v, kind int) {
		for tag := 3; tag <= 9; tag++ {
			low, high := limits(v, kind, tag)
			may := slices.Contains(cell(v, kind), tag)
			for _, n := range []int{math.MinInt, -1000, -1, 0, 1, 2, 3, 4, 30, 31, 32, 33, 999, 1000, 1001, math.MaxInt - 1, math.MaxInt} {
				r := plain(v, kind)
				set(&r, tag, n)
				switch {
				case may && (n < low || n > high):
					refused(t, r, api.ErrBound)
				case !may && n != 0:
					refused(t, r, api.ErrExtra)
				default:
					refused(t, r, api.OK)
				}
			}
		}
	})
}

// Promise 3.2: the pivot is held against the record's own count.
func TestPivots(t *testing.T) {
	for count := 1; count <= 32; count++ {
		for pivot := -1; pivot <= 34; pivot++ {
			want := api.OK
			if pivot < 0 || pivot > count {
				want = api.ErrBound
			}
			refused(t, api.Record{V: 3, Kind: 1, Saga: 5, Count: count, Pivot: pivot, Name: "buy"}, want)
		}
	}
}

// Promise 3.2: names, where one stands: in Name, and in a begin of version 1 in Data.
func TestNames(t *testing.T) {
	begin := func(v int, name string) api.Record {
		if v == 1 {
			return api.Record{V: 1, Kind: 1, Saga: 5, Step: 2, Data: []byte(name)}
		}
		return api.Record{V: v, Kind: 1, Saga: 5, Count: 2, Name: name}
	}
	for v := 1; v <= 3; v++ {
		for _, name := range names() {
			refused(t, begin(v, name), api.OK)
			refused(t, begin(v, " "+name), api.ErrLabel)
			refused(t, begin(v, name+" "), api.ErrLabel)
			refused(t, begin(v, name+"\xff"), api.ErrLabel)
			refused(t, begin(v, name+strings.Repeat("a", 48)), api.ErrLabel)
		}
		for _, name := range []string{"", "2b", "-", "\xff", "a b", "a\x00", "\ufffd", strings.Repeat("\u00e9", 49), strings.Repeat("a", api.MaxData)} {
			refused(t, begin(v, name), api.ErrLabel)
		}
	}
	refused(t, begin(1, strings.Repeat("a", api.MaxData+1)), api.ErrData)
	refused(t, begin(1, strings.Repeat(" ", api.MaxData+1)), api.ErrData)
	refused(t, begin(3, strings.Repeat("a", api.MaxData+1)), api.ErrLabel)
}

// Promise 3.2: data, where it may stand, is any bytes up to their bound; in a begin of version 1 it is a name.
func TestData(t *testing.T) {
	eachForm(func(v, kind int) {
		for _, n := range []int{0, 1, api.MaxData - 1, api.MaxData, api.MaxData + 1, 2 * api.MaxData} {
			r := plain(v, kind)
			r.Data = make([]byte, n)
			switch {
			case !slices.Contains(cell(v, kind), 11) && n > 0:
				refused(t, r, api.ErrExtra)
			case n > api.MaxData:
				refused(t, r, api.ErrData)
			case v == 1 && kind == api.KBegin:
				refused(t, r, api.ErrLabel)
			default:
				refused(t, r, api.OK)
			}
		}
		r := plain(v, kind)
		r.Name = "buy"
		if kind != api.KBegin || v == 1 {
			refused(t, r, api.ErrExtra)
		}
	})
}

// Promise 3.2: of several errors the one of the lowest tag is answered.
func TestOrderOfErrors(t *testing.T) {
	rows := []struct {
		r api.Record
		e api.Errno
	}{
		{api.Record{V: 0, Kind: 9}, api.ErrVersion},
		{api.Record{V: 2, Kind: 1, Saga: 5, Count: 3, Pivot: 2, Name: "buy"}, api.ErrExtra},
		{api.Record{V: 1, Kind: 2, Saga: 5, Step: 32, Try: 1}, api.ErrBound},
		{api.Record{V: 1, Kind: 2, Saga: 5, Step: 31, Try: 1}, api.ErrExtra},
		{api.Record{V: 2, Kind: 2, Saga: 5, Try: 0, Last: 1}, api.ErrBound},
		{api.Record{V: 2, Kind: 2, Saga: 5, Try: 1, At: -1, Last: 1}, api.ErrBound},
		{api.Record{V: 2, Kind: 2, Saga: 5, Try: 1, Last: 2}, api.ErrExtra},
		{api.Record{V: 3, Kind: 7, Saga: 5, Last: 1, Code: 3}, api.ErrExtra},
		{api.Record{V: 3, Kind: 7, Saga: 5, Code: 3, Count: 1}, api.ErrBound},
		{api.Record{V: 3, Kind: 1, Saga: 5, Count: 0, Pivot: 0, Name: "2b"}, api.ErrBound},
		{api.Record{V: 3, Kind: 1, Saga: 5, Count: 2, Pivot: 3, Name: "2b"}, api.ErrBound},
		{api.Record{V: 2, Kind: 1, Saga: 5, Count: 2, Pivot: 3, Name: "2b"}, api.ErrExtra},
		{api.Record{V: 2, Kind: 1, Saga: 5, Step: 2, Count: 0}, api.ErrExtra},
		{api.Record{V: 3, Kind: 1, Saga: 5, Count: 2, Name: "2b", Data: make([]byte, api.MaxData+1)}, api.ErrLabel},
		{api.Record{V: 3, Kind: 1, Saga: 5, Count: 2, Name: "b", Data: make([]byte, api.MaxData+1)}, api.ErrData},
		{api.Record{V: 1, Kind: 1, Saga: 5, Step: 0, Data: []byte("2b")}, api.ErrBound},
		{api.Record{V: 1, Kind: 1, Saga: 5, Step: 1, Name: "b", Data: []byte("2b")}, api.ErrExtra},
		{api.Record{V: 3, Kind: 3, Saga: 5, Name: "2b", Data: make([]byte, api.MaxData+1)}, api.ErrExtra},
	}
	for _, row := range rows {
		refused(t, row.r, row.e)
	}
}

// slowCheck reads the document's tables of tags and bounds straight off, one question behind the other.
func slowCheck(r api.Record) api.Errno {
	switch {
	case r.V < 1 || r.V > 3:
		return api.ErrVersion
	case r.Kind < 1 || r.Kind > 7:
		return api.ErrKind
	case r.Saga < 1:
		return api.ErrID
	}
	may := cell(r.V, r.Kind)
	oldBegin := r.V == 1 && r.Kind == api.KBegin
	label := func(s string) bool { e, _ := text.Name(s); return e == api.OK }
	end := r.Kind == api.KEnd
	rows := []struct {
		tag        int
		zero, good bool
		e          api.Errno
	}{
		{3, r.Step == 0, !oldBegin && r.Step >= 0 && r.Step <= 31 || oldBegin && r.Step >= 1 && r.Step <= 32, api.ErrBound},
		{4, r.Try == 0, r.Try >= 1 && r.Try <= 1000, api.ErrBound},
		{5, r.At == 0, r.At >= 0, api.ErrBound},
		{6, r.Last == 0, r.Last == 0 || r.Last == 1, api.ErrBound},
		{7, r.Code == 0, !end || r.Code >= 0 && r.Code <= 2, api.ErrBound},
		{8, r.Count == 0, r.Count >= 1 && r.Count <= 32, api.ErrBound},
		{9, r.Pivot == 0, r.Pivot >= 0 && r.Pivot <= r.Count, api.ErrBound},
		{10, r.Name == "", label(r.Name), api.ErrLabel},
		{11, len(r.Data) == 0, len(r.Data) <= 16384, api.ErrData},
		{11, len(r.Data) == 0, !oldBegin || label(string(r.Data)), api.ErrLabel},
	}
	for _, row := range rows {
		stands := slices.Contains(may, row.tag)
		if !stands && !row.zero {
			return api.ErrExtra
		}
		if stands && !row.good {
			return row.e
		}
	}
	return api.OK
}

// drawNear is a valid record in which up to three fields are changed.
func drawNear(r *rand.Rand) api.Record {
	x := draw(r, 1+r.Intn(3), 1+r.Intn(7))
	for range r.Intn(4) {
		switch tag := r.Intn(13); tag {
		case 10:
			x.Name = pick(r, "", "buy", "2b", "a b", strings.Repeat("a", 49))
		case 11:
			x.Data = make([]byte, pick(r, 0, 1, api.MaxData, api.MaxData+1))
		case 12:
			x.Data = []byte(pick(r, names()...))
		default:
			set(&x, tag, pick(r, math.MinInt, -1, 0, 0, 1, 2, 3, 4, 7, 8, 31, 32, 33, 1000, 1001, math.MaxInt))
		}
	}
	return x
}

// Promise 3.2: of records near valid ones the answer is that of the tables, asked one by one.
func TestCheckAgainstTables(t *testing.T) {
	r := rand.New(rand.NewSource(5))
	seen := map[api.Errno]int{}
	for range 60000 {
		x := drawNear(r)
		e := record.Check(x)
		seen[e]++
		if e != slowCheck(x) {
			t.Fatalf("Check(%+v) = %d, not %d", x, e, slowCheck(x))
		}
	}
	for _, e := range []api.Errno{api.OK, api.ErrVersion, api.ErrKind, api.ErrID, api.ErrExtra, api.ErrBound, api.ErrLabel, api.ErrData} {
		if seen[e] < 50 {
			t.Errorf("error %d came %d times only", e, seen[e])
		}
	}
}
