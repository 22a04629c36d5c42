package record_test

import (
	"bytes"
	"math"
	"math/rand"
	"slices"
	"strconv"
	"strings"
	"testing"

	"annals/api"
	"annals/record"
)

// table is the document's: the tags by kind (rows) and by version (columns).
const table = `1 2 3 11|1 2 5 8 10 11|1 2 5 8 9 10 11
1 2 3|1 2 3 4 5|1 2 3 4 5
1 2 3 11|1 2 3 5 11|1 2 3 5 11
1 2 3 11|1 2 3 5 6 11|1 2 3 5 6 7 11
1 2 3|1 2 3 4 5|1 2 3 4 5
1 2 3 11|1 2 3 5 11|1 2 3 5 11
1 2|1 2 5|1 2 5 7`

// cell is the table's cell of a version and a kind.
func cell(v, kind int) []int {
	row := strings.Split(table, "\n")[kind-1]
	var out []int
	for _, word := range strings.Fields(strings.Split(row, "|")[v-1]) {
		n, _ := strconv.Atoi(word)
		out = append(out, n)
	}
	return out
}

// eachForm calls f with every version and kind that there is.
func eachForm(f func(v, kind int)) {
	for v := 1; v <= 3; v++ {
		for kind := api.KBegin; kind <= api.KEnd; kind++ {
			f(v, kind)
		}
	}
}

// plain is a valid record of that version and kind with as many zeros as may be.
func plain(v, kind int) api.Record {
	r := api.Record{V: v, Kind: kind, Saga: 5}
	switch {
	case kind == api.KBegin && v == 1:
		r.Step, r.Data = 2, []byte("buy")
	case kind == api.KBegin:
		r.Count, r.Name = 3, "buy"
	case v > 1 && (kind == api.KStart || kind == api.KUndo):
		r.Try = 1
	}
	return r
}

// names are some of the longest and the shortest ones.
func names() []string {
	return []string{"a", "buy", "b\u00fccher-2", strings.Repeat("z", 48), strings.Repeat("\u00e9", 48), strings.Repeat("\U00010400", 48), "\u4e2d" + strings.Repeat("_", 47)}
}

// pick is one of several.
func pick[T any](r *rand.Rand, from ...T) T { return from[r.Intn(len(from))] }

// drawData is any bytes, mostly few.
func drawData(r *rand.Rand) []byte {
	b := make([]byte, pick(r, 0, 0, 1, 3, 127, 128, 300))
	r.Read(b)
	return b
}

// drawAt is a time or, from 1 on, an id.
func drawAt(r *rand.Rand, from int) int {
	return pick(r, from, from, 1, 127, 128, 16383, 16384, 1+r.Intn(1<<40), api.MaxID-1, api.MaxID)
}

// draw is a valid record of that version and kind.
func draw(r *rand.Rand, v, kind int) api.Record {
	out := api.Record{V: v, Kind: kind, Saga: drawAt(r, 1)}
	for _, tag := range cell(v, kind) {
		switch tag {
		case 3:
			out.Step = r.Intn(32)
		case 4:
			out.Try = 1 + r.Intn(1000)
		case 5:
			out.At = drawAt(r, 0)
		case 6:
			out.Last = r.Intn(2)
		case 7:
			out.Code = pick(r, 0, 1, -1, 63, -64, 64, -65, math.MinInt, math.MaxInt, int(r.Uint64()))
		case 8:
			out.Count = 1 + r.Intn(32)
		case 9:
			out.Pivot = r.Intn(out.Count + 1)
		case 10:
			out.Name = pick(r, names()...)
		case 11:
			out.Data = drawData(r)
		}
	}
	if kind == api.KEnd && v == 3 {
		out.Code = r.Intn(3)
	}
	if kind == api.KBegin && v == 1 {
		out.Step++
		out.Data = []byte(pick(r, names()...))
	}
	return out
}

// equal tells whether two records hold the same, field by field.
func equal(a, b api.Record) bool {
	return a.V == b.V && a.Kind == b.Kind && a.Saga == b.Saga && a.Step == b.Step && a.Try == b.Try && a.At == b.At && a.Last == b.Last && a.Code == b.Code && a.Count == b.Count && a.Pivot == b.Pivot && a.Name == b.Name && string(a.Data) == string(b.Data)
}

// set puts the number n, or a text made of it, into the field of a tag; tag 0 stands for V.
func set(r *api.Record, tag, n int) {
	switch tag {
	case 10:
		r.Name = strconv.Itoa(n)
	case 11:
		r.Data = []byte(strconv.Itoa(n))
	default:
		*[...]*int{&r.V, &r.Kind, &r.Saga, &r.Step, &r.Try, &r.At, &r.Last, &r.Code, &r.Count, &r.Pivot}[tag] = n
	}
}

// Promise 3.1: the tags of the document's table, rising; none outside of it.
func TestFields(t *testing.T) {
	odd := []int{math.MinInt, -256, -1, 0, 4, 5, 8, 9, 257, math.MaxInt}
	eachForm(func(v, kind int) {
		if got := record.Fields(v, kind); !slices.Equal(got, cell(v, kind)) {
			t.Errorf("Fields(%d, %d) = %v, not %v", v, kind, got, cell(v, kind))
		}
		for _, n := range odd {
			if n < 1 || n > 3 {
				if got := record.Fields(n, kind); len(got) != 0 {
					t.Errorf("Fields(%d, %d) = %v", n, kind, got)
				}
			}
			if n < 1 || n > 7 {
				if got := record.Fields(v, n); len(got) != 0 {
					t.Errorf("Fields(%d, %d) = %v", v, n, got)
				}
			}
		}
	})
}

// Promise 3.1: the tags of Fields are just those of the fields that Check lets stand.
func TestFieldsAreThoseThatMayStand(t *testing.T) {
	eachForm(func(v, kind int) {
		for tag := 3; tag <= 11; tag++ {
			r := plain(v, kind)
			set(&r, tag, 1)
			may := record.Check(r) != api.ErrExtra
			if may != slices.Contains(record.Fields(v, kind), tag) {
				t.Errorf("version %d, kind %d: tag %d may stand: %v", v, kind, tag, may)
			}
		}
	})
}

// Promise 3.7: two records are the same if all fields are, and V; whether they are valid is not asked.
func TestSame(t *testing.T) {
	full := api.Record{V: 9, Kind: -8, Saga: -7, Step: 76, Try: -5, At: 4, Last: 3, Code: 2, Count: 99, Pivot: 100, Name: "\xff n", Data: []byte("abc")}
	for _, r := range []api.Record{{}, plain(3, api.KBegin), full} {
		if !record.Same(r, r) {
			t.Errorf("%+v is not the same as itself", r)
		}
		for tag := 0; tag <= 11; tag++ {
			other := r
			set(&other, tag, 55)
			if record.Same(r, other) || record.Same(other, r) {
				t.Errorf("tag %d is not looked at: %+v", tag, other)
			}
		}
	}
}

// Promise 3.7: data is held against data byte by byte; nil and empty are the same.
func TestSameData(t *testing.T) {
	with := func(data []byte) api.Record { return api.Record{V: 3, Kind: 3, Saga: 5, Data: data} }
	rows := []struct {
		a, b []byte
		same bool
	}{
		{nil, nil, true},
		{nil, []byte{}, true},
		{[]byte{}, make([]byte, 0, 9), true},
		{nil, []byte{0}, false},
		{[]byte("abc"), []byte("abc"), true},
		{[]byte("abc"), []byte("abd"), false},
		{[]byte("abc"), []byte("xbc"), false},
		{[]byte("abc"), []byte("ab"), false},
		{[]byte("abc"), []byte("abcd")[:3], true},
		{[]byte("abc\x00"), []byte("abc"), false},
	}
	for _, r := range rows {
		if record.Same(with(r.a), with(r.b)) != r.same || record.Same(with(r.b), with(r.a)) != r.same {
			t.Errorf("%q and %q are the same: %v", r.a, r.b, !r.same)
		}
	}
}

// Promise 3.8: a clone is the same as the record, valid or not.
func TestClone(t *testing.T) {
	r := rand.New(rand.NewSource(1))
	rows := []api.Record{{}, {Data: []byte{}}, {V: 9, Kind: -8, Saga: -7, Step: 76, Try: -5, At: 4, Last: 3, Code: 2, Count: 99, Pivot: 100, Name: "\xff n", Data: []byte("abc")}, {Data: make([]byte, api.MaxData+9)}}
	eachForm(func(v, kind int) { rows = append(rows, plain(v, kind), draw(r, v, kind)) })
	for _, row := range rows {
		if c := record.Clone(row); !equal(c, row) || !record.Same(c, row) {
			t.Errorf("the clone of %+v is %+v", row, c)
		}
	}
}

// Promise 3.8: the data of a clone is memory of its own, its spare room too.
func TestCloneIsApart(t *testing.T) {
	for _, text := range []string{"", "a", "abc", strings.Repeat("x", 100)} {
		a := api.Record{V: 3, Kind: 3, Saga: 5, Data: spare([]byte(text))}
		was := bytes.Clone(room(a.Data))
		c, d := record.Clone(a), record.Clone(a)
		scribble(c.Data)
		if !bytes.Equal(room(a.Data), was) {
			t.Errorf("writing into the clone of %q changes it to %q", was, room(a.Data))
		}
		scribble(a.Data)
		if string(d.Data) != text {
			t.Errorf("writing into %q changes its clone to %q", text, d.Data)
		}
	}
}
