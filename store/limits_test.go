package store_test

import (
	"bytes"
	"math"
	"slices"
	"strings"
	"testing"

	"annals/api"
)

const maxNumber = 1099511627776 // 2^40

// Promise 9.3: a batch joins the active segment up to the limit, and goes into a new one a byte above it; a segment without a record takes any batch, whole.
func TestLimit(t *testing.T) {
	t.Parallel()
	for limit := 64; limit < 110; limit++ {
		for first := 1; first < 8; first++ {
			for second := 1; second < 4; second++ {
				p := newPair(t, 4096, api.Options{V: 1, Limit: limit})
				p.append(t, ends(1, slices.Repeat([]int{1}, first)...)...)
				p.append(t, ends(1, slices.Repeat([]int{2}, second)...)...)
				if got, want := p.s.Stat().Segs == 2, 5+11*first+11*second > limit; got != want {
					t.Fatalf("limit %d, %d and %d records: %s", limit, first, second, numbers(p.s))
				}
			}
		}
	}
	// The greatest batch there is, in a store of the least limit.
	great := api.Record{V: 3, Kind: api.KBegin, Saga: math.MaxInt, At: math.MaxInt, Count: 32, Pivot: 32, Name: strings.Repeat("ü", 48), Data: make([]byte, 16384)}
	p := newPair(t, 1<<22, api.Options{V: 3, Limit: 64})
	for range 3 {
		if got := p.append(t, slices.Repeat([]api.Record{great}, 16)...); got != "" {
			t.Fatalf("the greatest batch: %s", got)
		}
	}
	if s := p.s.Stat(); s.Segs != 3 || s.Records != 48 || s.Size < 16*16384 {
		t.Errorf("%+v", s)
	}
}

// Promises 9.3, 9.5, 9.6, 9.7: the room that each call needs, to the byte.
func TestNeeds(t *testing.T) {
	full := ends(1, 1, 2, 3, 4, 5)
	rows := []struct {
		name string
		call func(p *pair) string
		need int
	}{
		{"Append", func(p *pair) string { return p.append(t, end(1, 1)) }, 11},
		{"Append of five", func(p *pair) string { return p.append(t, full...) }, 55},
		{"Append of five of 128", func(p *pair) string { return p.append(t, ends(1, 128, 128, 128, 128, 128)...) }, 60},
		{"Raise", func(p *pair) string { return p.raise(t, 2) }, 17 + 5 + 18},
		{"Replace by none", func(p *pair) string { return p.replace(t, 1, 0) }, 5 + 15},
		{"Replace by one", func(p *pair) string { return p.replace(t, 1, 127, full[0]) }, 16 + 15},
		{"Replace by one, with a Top of two bytes", func(p *pair) string { return p.replace(t, 1, 128, full[0]) }, 16 + 16},
	}
	for _, c := range rows {
		for off := -1; off < 2; off++ {
			p := newPair(t, 20+c.need+off, usual)
			if got := c.call(p); (got == "") != (off >= 0) || off < 0 && got[len(got)-2:] != "64" {
				t.Errorf("%s, %d bytes more than the need: %s", c.name, off, got)
			}
		}
	}
	// With five records in the active segment: footer 24, header 5, manifest 18 bytes.
	behind := []struct {
		name string
		call func(p *pair) string
		need int
	}{
		{"Rotate", func(p *pair) string { return p.rotate(t) }, 24 + 5 + 18},
		{"Raise", func(p *pair) string { return p.raise(t, 3) }, 24 + 5 + 18},
		{"Append, and a new segment", func(p *pair) string { return p.append(t, full...) }, 24 + 5 + 18 + 55},
	}
	for _, c := range behind {
		for off := -1; off < 2; off++ {
			p := newPair(t, 20+55+c.need+off, usual)
			p.append(t, ends(1, 1, 1, 1, 1, 1)...)
			if got := c.call(p); (got == "") != (off >= 0) || off < 0 && got[len(got)-2:] != "64" {
				t.Errorf("%s, %d bytes more than the need: %s", c.name, off, got)
			}
		}
	}
}

// at is a store whose manifest says these numbers, with one record.
func at(t *testing.T, gen, next int) *pair {
	t.Helper()
	m := api.Manifest{Gen: gen, V: 1, Next: next, Top: 5, Segs: []api.Seg{{Num: 7}}}
	return newPair(t, 1<<16, usual, file("MANIFEST", manifestBytes(m)), file("s7", openBytes(1, ends(1, 1, 1, 1, 1, 1)...)))
}

// Promises 9.1, 9.3, 9.5 to 9.7: a new manifest that may not be is told ahead of the room, with the name MANIFEST, and changes nothing.
func TestNumbersEnd(t *testing.T) {
	calls := map[string]func(p *pair) string{
		"append":  func(p *pair) string { return p.append(t, end(1, 1)) },
		"rotate":  func(p *pair) string { return p.rotate(t) },
		"raise":   func(p *pair) string { return p.raise(t, 2) },
		"replace": func(p *pair) string { return p.replace(t, 1, 0, ends(1, 1, 2)...) },
	}
	for op, call := range calls {
		if got := call(at(t, maxNumber-1, maxNumber-1)); got != "" {
			t.Errorf("%s to the last number: %s", op, got)
		}
		if got, want := call(at(t, maxNumber, 8)), refusal(op, "MANIFEST", -1, api.ErrGen); got != want {
			t.Errorf("%s: %s, want %s", op, got, want)
		}
		if got, want := call(at(t, 1, maxNumber)), refusal(op, "MANIFEST", -1, api.ErrNext); got != want {
			t.Errorf("%s: %s, want %s", op, got, want)
		}
		if got, want := call(at(t, maxNumber, maxNumber)), refusal(op, "MANIFEST", -1, api.ErrGen); got != want {
			t.Errorf("%s: %s, want %s", op, got, want)
		}
		m := api.Manifest{Gen: maxNumber, V: 1, Next: 2, Segs: []api.Seg{{Num: 1}}}
		files := []api.File{file("MANIFEST", manifestBytes(m)), file("s1", openBytes(1, ends(1, 1, 1, 1, 1, 1)...))}
		p := newPair(t, len(files[0].Data)+len(files[1].Data), usual, files...)
		if got, want := call(p), refusal(op, "MANIFEST", -1, api.ErrGen); got != want {
			t.Errorf("%s without room: %s, want %s", op, got, want)
		}
		// What needs no new segment is not hindered.
		p = at(t, maxNumber, maxNumber)
		if p.open(t, api.Options{V: 1, Limit: 100}); p.append(t, end(1, 1)) != "" || p.sync(t) != "" || p.raise(t, 1) != "" {
			t.Error("a call that makes no manifest is refused")
		}
	}
	// Replace that would need more numbers than are left.
	many := ends(1, slices.Repeat([]int{1}, 12)...)
	if got := at(t, 1, maxNumber-3).replace(t, 1, 0, many...); got != "" {
		t.Errorf("three numbers are left: %s", got)
	}
	if got, want := at(t, 1, maxNumber-2).replace(t, 1, 0, many...), refusal("replace", "MANIFEST", -1, api.ErrNext); got != want {
		t.Errorf("two numbers are left: %s", got)
	}
}

// Promises 9.3, 9.5 to 9.7: a store has at most 128 segments; a Replace makes room again.
func TestMostSegments(t *testing.T) {
	_, s := fresh(t, 1<<20, usual)
	for i := range 128 {
		if err := s.Append(end(1, 1+i%5)); err != nil {
			t.Fatal(err)
		}
		if err := s.Rotate(); (err == nil) != (i < 127) {
			t.Fatalf("Rotate %d: %v", i, err)
		}
	}
	if s.Append(ends(1, 1, 2, 3, 4)...) != nil || s.Stat().Segs != 128 || s.Stat().Size != 60 {
		t.Fatalf("%s", numbers(s))
	}
	for _, c := range []struct {
		err error
		op  string
	}{{s.Append(end(1, 1)), "append"}, {s.Rotate(), "rotate"}, {s.Raise(2), "raise"}} {
		if got := fields(t, c.err); got != refusal(c.op, "MANIFEST", -1, api.ErrSegs) {
			t.Errorf("%s", got)
		}
	}
	l, err := s.Records()
	one, err2 := s.Lookup(3)
	if err != nil || err2 != nil || len(l) != 132 || len(one) != 27 || s.Stat().Records != 132 {
		t.Errorf("%d records, %v, %d of saga 3, %v", len(l), err, len(one), err2)
	}
	if err := s.Replace(1, 0, l...); err != nil || s.Stat().Segs != 27 || s.Rotate() != nil {
		t.Errorf("%v, %s", err, numbers(s))
	}
}

// Promise 9.3, 9.5: an active segment that was loaded so long that it may not be closed hinders what would close it.
func TestLongActive(t *testing.T) {
	t.Parallel()
	one := api.Record{V: 1, Kind: api.KDone, Saga: 1, Data: make([]byte, 16384)}
	frame := openBytes(1, one)[5:]
	b := append([]byte("ANLS\x01"), bytes.Repeat(frame, 524288/len(frame))...)
	rest := one
	rest.Data = one.Data[:524288-len(b)-20]
	b = append(b, openBytes(1, rest)[5:]...)
	m := api.Manifest{Gen: 1, V: 1, Next: 2, Segs: []api.Seg{{Num: 1}}}
	p := newPair(t, 1<<21, usual, file("MANIFEST", manifestBytes(m)), file("s1", b))
	if got := p.append(t, end(1, 1)); got != refusal("append", "MANIFEST", -1, api.ErrSeg) {
		t.Errorf("Append: %s", got)
	}
	if got := p.rotate(t); got != refusal("rotate", "MANIFEST", -1, api.ErrSeg) {
		t.Errorf("Rotate: %s", got)
	}
	if got := p.raise(t, 2); got != refusal("raise", "MANIFEST", -1, api.ErrSeg) {
		t.Errorf("Raise: %s", got)
	}
	if got := p.replace(t, 2, 0, p.w.list()...); got != "" || p.rotate(t) != "" {
		t.Errorf("Replace: %s", got)
	}
}

// Promise 9.7: the bound of the segments that Replace fills is the limit, or a fiftieth of all frames, if that is more.
func TestBound(t *testing.T) {
	for _, n := range []int{0, 1, 2, 5, 6, 11, 250, 290, 291, 295, 296, 300, 500, 1000} {
		p := newPair(t, 1<<20, usual)
		if got := p.replace(t, 2, 0, ends(1, slices.Repeat([]int{1}, n)...)...); got != "" {
			t.Errorf("%d records: %s", n, got)
		}
		if s := p.s.Stat(); s.Records != n || s.Segs > 109 || s.Top != 0 || s.V != 2 {
			t.Errorf("%d records: %+v", n, s)
		}
	}
	// Frames of many lengths: each begins a segment where it must.
	var mixed []api.Record
	for i := range 400 {
		mixed = append(mixed, api.Record{V: 1, Kind: api.KDone, Saga: 1 + i%3, Data: make([]byte, i*7%113)})
	}
	for _, limit := range []int{64, 100, 555, 700, 65536} {
		p := newPair(t, 1<<20, api.Options{V: 1, Limit: limit})
		if got := p.replace(t, 3, 0, mixed...); got != "" {
			t.Errorf("limit %d: %s", limit, got)
		}
	}
}

// Promise 9.7: a store that is as full as may be is rewritten, if there is room; there are never more than 109 segments.
func TestMostParts(t *testing.T) {
	// Frames of 30 bytes, two of which are a byte too much for a segment of 64; with one more of them the bound would rise.
	small := api.Record{V: 1, Kind: api.KDone, Saga: 1, Data: make([]byte, 17)}
	_, s := fresh(t, 1<<16, usual)
	if err := s.Replace(1, 0, slices.Repeat([]api.Record{small}, 108)...); err != nil || s.Stat().Segs != 108 {
		t.Errorf("108 alone: %v, %s", err, numbers(s))
	}
	if err := s.Replace(1, 0, slices.Repeat([]api.Record{small}, 109)...); err != nil || s.Stat().Segs != 55 {
		t.Errorf("109 in pairs: %v, %s", err, numbers(s))
	}
	for _, size := range []int{800, 8000, 16384} {
		rec := api.Record{V: 1, Kind: api.KDone, Saga: 1, Data: make([]byte, size)}
		frame := len(openBytes(1, rec)) - 5
		for _, n := range []int{2000000 / frame, 1000000 / frame, 99, 100, 101} {
			_, s := fresh(t, 1<<22, usual)
			if n*frame > 2000000 {
				continue
			}
			if err := s.Replace(1, 0, slices.Repeat([]api.Record{rec}, n)...); err != nil || s.Stat().Segs > 109 || s.Stat().Records != n {
				t.Errorf("%d records of %d: %v, %s", n, size, err, numbers(s))
			}
		}
	}
}

// Promise 9.7: frames of more bytes than any disk has are ErrFull, ahead of the manifest; what is wrong with a record is told ahead of that.
func TestTooManyFrames(t *testing.T) {
	t.Parallel()
	rec := api.Record{V: 1, Kind: api.KDone, Saga: 1, Data: make([]byte, 16384)}
	frame := len(openBytes(1, rec)) - 5
	n := 4194304/frame + 1
	recs := slices.Repeat([]api.Record{rec}, n)
	p := at(t, maxNumber, 8)
	if got, want := p.replace(t, 1, 0, recs...), refusal("replace", "", -1, api.ErrFull); got != want {
		t.Errorf("%d frames of %d: %s", n, frame, got)
	}
	if got, want := p.replace(t, 1, 0, recs[1:]...), refusal("replace", "MANIFEST", -1, api.ErrGen); got != want {
		t.Errorf("one less: %s", got)
	}
	if got, want := p.replace(t, 1, 0, append(recs, end(2, 1))...), refusal("replace", "", n, api.ErrNewer); got != want {
		t.Errorf("a newer one behind them: %s", got)
	}
	// Just so many bytes as a disk has at the most are not too many for this.
	left := 4194304 - frame*(n-1)
	last := api.Record{V: 1, Kind: api.KDone, Saga: 1, Data: make([]byte, left-len(openBytes(1, end(1, 1)))+5-4)}
	for len(openBytes(1, last))-5 < left {
		last.Data = append(last.Data, 0)
	}
	for len(openBytes(1, last))-5 > left {
		last.Data = last.Data[1:]
	}
	just := append(recs[1:len(recs):len(recs)], last)
	if got, want := p.replace(t, 1, 0, just...), refusal("replace", "MANIFEST", -1, api.ErrGen); got != want || len(openBytes(1, just...))-5 != 4194304 {
		t.Errorf("just as many bytes: %s", got)
	}
	last.Data = append(last.Data, 0)
	just[len(just)-1] = last
	if got, want := p.replace(t, 1, 0, just...), refusal("replace", "", -1, api.ErrFull); got != want {
		t.Errorf("a byte more: %s", got)
	}
}

// Promise 9.7: Top is the greater one of the old and the new, and lasts; the version goes up, never down.
func TestTop(t *testing.T) {
	d, s := fresh(t, 4096, usual)
	for _, c := range []struct{ top, want int }{{0, 0}, {7, 7}, {3, 7}, {0, 7}, {math.MaxInt, math.MaxInt}, {1, math.MaxInt}} {
		if err := s.Replace(1, c.top); err != nil || s.Stat().Top != c.want {
			t.Errorf("Top %d: %v, %d", c.top, err, s.Stat().Top)
		}
		if u := opened(t, loaded(t, 4096, d.Crash(0)...), usual); u.Stat() != s.Stat() {
			t.Errorf("Top %d, opened again: %+v, not %+v", c.top, u.Stat(), s.Stat())
		}
	}
	for _, c := range []struct {
		v    int
		want string
	}{{2, "nil"}, {1, "replace: error 91"}, {2, "nil"}, {3, "nil"}, {2, "replace: error 91"}} {
		if err := s.Replace(c.v, 0, end(1, 1)); text(err) != c.want {
			t.Errorf("version %d: %v", c.v, err)
		}
	}
	if l, err := s.Records(); err != nil || !sameRecs(l, ends(3, 1)) || s.Append(end(3, 1)) != nil {
		t.Errorf("%v, %v", l, err)
	}
}

// Promises 9.3, 9.8, 9.9: records are lifted to the version of the segment that they join, and stay as they are when the store's version rises.
func TestLifted(t *testing.T) {
	begin := api.Record{V: 1, Kind: api.KBegin, Saga: 5, Step: 3, Data: []byte("buy")}
	start := api.Record{V: 1, Kind: api.KStart, Saga: 5, Step: 1}
	_, s := fresh(t, 4096, api.Options{V: 1, Limit: 65536})
	for _, err := range []error{s.Append(begin, start), s.Raise(2), s.Append(begin, start), s.Raise(3), s.Append(begin, start, end(2, 6))} {
		if err != nil {
			t.Fatal(err)
		}
	}
	of2 := []api.Record{{V: 2, Kind: api.KBegin, Saga: 5, Count: 3, Name: "buy"}, {V: 2, Kind: api.KStart, Saga: 5, Step: 1, Try: 1}}
	of3 := []api.Record{{V: 3, Kind: api.KBegin, Saga: 5, Count: 3, Name: "buy"}, {V: 3, Kind: api.KStart, Saga: 5, Step: 1, Try: 1}}
	want := slices.Concat([]api.Record{begin, start}, of2, of3)
	l, err := s.Lookup(5)
	if err != nil || !sameRecs(l, want) {
		t.Errorf("Lookup: %v, %v", l, err)
	}
	l, err = s.Records()
	if err != nil || !sameRecs(l, append(want, end(3, 6))) {
		t.Errorf("Records: %v, %v", l, err)
	}
}

// Promise 9.9: ids of all sizes are looked up, in closed segments and in the active one.
func TestLookup(t *testing.T) {
	ids := []int{1, 2, 127, 128, 300, 1 << 40, math.MaxInt - 1, math.MaxInt}
	_, s := fresh(t, 1<<16, api.Options{V: 3, Limit: 200})
	var all []api.Record
	for i := range 60 {
		x := api.Record{V: 3, Kind: api.KDone, Saga: ids[i*i%len(ids)], Step: i % 32, At: i}
		if err := s.Append(x); err != nil {
			t.Fatal(err)
		}
		all = append(all, x)
		for _, id := range append(ids, 3, 129, 1<<41) {
			var want []api.Record
			for _, r := range all {
				if r.Saga == id {
					want = append(want, r)
				}
			}
			if l, err := s.Lookup(id); err != nil || !sameRecs(l, want) {
				t.Fatalf("Lookup(%d) = %v, %v, want %v", id, l, err, want)
			}
		}
	}
	if s.Stat().Segs < 4 {
		t.Errorf("%s", numbers(s))
	}
}
