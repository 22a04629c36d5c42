package cjson_test

import (
	"strings"
	"testing"

	"annals/api"
	"annals/cjson"
)

// Promise 13.1: a text of MaxJSON bytes is written, one of a byte more is not, whatever makes it long; that a value is not sound comes first.
func TestPrintedLength(t *testing.T) {
	a := strings.Repeat("a", api.MaxJSON+64)
	cases := []struct {
		name string
		make func(n int) api.Value // whose text has n bytes
	}{
		{"a string", func(n int) api.Value { return text(a[:n-2]) }},
		{"a string with escapes", func(n int) api.Value {
			return text(strings.Repeat("\x00", (n-2)/6) + a[:(n-2)%6])
		}},
		{"a string of long runes", func(n int) api.Value { return text(strings.Repeat("\U0001f600", (n-2)/4) + a[:(n-2)%4]) }},
		{"a name", func(n int) api.Value { return object(a[:n-9], null) }},
		{"a name that comes last", func(n int) api.Value { return object("b"+a[:n-19]+"|a", null, null) }},
		{"an array", func(n int) api.Value { return list(text(a[:n/2]), num(-1), text(a[:n-n/2-10])) }},
		{"what closes it", func(n int) api.Value { return wrapped(16, text(a[:n-34])) }},
		{"a number at the end", func(n int) api.Value { return list(text(a[:n-25]), num(-1<<63)) }},
	}
	for _, c := range cases {
		if b, e := cjson.Print(c.make(api.MaxJSON)); len(b) != api.MaxJSON || e != api.OK {
			t.Errorf("%s: %d bytes, %d", c.name, len(b), e)
		}
		for _, more := range []int{1, 20} {
			if b, e := cjson.Print(c.make(api.MaxJSON + more)); len(b) != 0 || e != api.ErrLong {
				t.Errorf("%s, %d more: %d bytes, %d", c.name, more, len(b), e)
			}
		}
	}
	long := text(a)
	for _, c := range []struct {
		v api.Value
		e api.Errno
	}{{list(long, api.Value{Kind: 9}), api.ErrValue}, {list(long, text("\xff")), api.ErrUTF}, {object("a|a", long, null), api.ErrMember}, {list(long, nested(16)), api.ErrDeep}, {list(long, null), api.ErrLong}} {
		if b, e := cjson.Print(c.v); len(b) != 0 || e != c.e {
			t.Errorf("Print = %d bytes, %d, not %d", len(b), e, c.e)
		}
	}
}

// Promise 13.1: what is far too long is told so too, and what the text would be need not be built.
func TestPrintFarTooLong(t *testing.T) {
	zeros := text(strings.Repeat("\x00", api.MaxJSON))
	for _, v := range []api.Value{zeros, list(zeros, zeros, zeros), object("b|a", zeros, zeros), list(make([]api.Value, api.MaxJSON/4)...)} {
		if b, e := cjson.Print(v); len(b) != 0 || e != api.ErrLong {
			t.Errorf("Print = %d bytes, %d", len(b), e)
		}
	}
}

// Promises 13.2, 13.3 and 13.4: a text of MaxJSON bytes is read, one of a byte more is refused for its length alone.
func TestReadLength(t *testing.T) {
	full := `"` + strings.Repeat("a", api.MaxJSON-2) + `"`
	if v, e, at := cjson.Loose([]byte(full)); v.Kind != api.JText || v.Text != full[1:len(full)-1] || e != api.OK || at != 0 {
		t.Errorf("Loose: %d, %d", e, at)
	}
	if v, e, at := cjson.Parse([]byte(full)); v.Kind != api.JText || v.Text != full[1:len(full)-1] || e != api.OK || at != 0 {
		t.Errorf("Parse: %d, %d", e, at)
	}
	if b, e, at := cjson.Canon([]byte(full)); string(b) != full || e != api.OK || at != 0 {
		t.Errorf("Canon: %d, %d", e, at)
	}
	if v, e, at := cjson.Loose([]byte(strings.Repeat(" ", api.MaxJSON-4) + "null")); !same(v, null) || e != api.OK || at != 0 {
		t.Errorf("Loose: %d, %d", e, at)
	}
	blank := strings.Repeat(" ", api.MaxJSON)
	for _, s := range []string{full + " ", full + "x", " " + full, "]" + full, "\"\xff" + full, blank + "1", blank + blank} {
		if v, e, at := cjson.Loose([]byte(s)); !same(v, null) || e != api.ErrLong || at != api.MaxJSON {
			t.Errorf("Loose of %d bytes = %v, %d, %d", len(s), v, e, at)
		}
		if v, e, at := cjson.Parse([]byte(s)); !same(v, null) || e != api.ErrLong || at != api.MaxJSON {
			t.Errorf("Parse of %d bytes = %v, %d, %d", len(s), v, e, at)
		}
		if b, e, at := cjson.Canon([]byte(s)); len(b) != 0 || e != api.ErrLong || at != api.MaxJSON {
			t.Errorf("Canon of %d bytes = %d bytes, %d, %d", len(s), len(b), e, at)
		}
	}
	if _, e, at := cjson.Loose([]byte(blank)); e != api.ErrEnd || at != api.MaxJSON {
		t.Errorf("Loose of blanks: %d, %d", e, at)
	}
	if _, e, at := cjson.Loose([]byte(blank[1:] + "]")); e != api.ErrByte || at != api.MaxJSON-1 {
		t.Errorf("Loose of blanks and a bracket: %d, %d", e, at)
	}
}

// Promises 13.3 and 13.4: a text that is written out longer than it was: Canon answers it up to MaxJSON bytes, Parse tells where it parts, however long.
func TestGrowing(t *testing.T) {
	a := strings.Repeat("a", api.MaxJSON-15)
	b := []byte(`["` + a + `",1e9]`)
	want := `["` + a + `",1000000000]`
	if c, e, at := cjson.Canon(b); string(c) != want || e != api.OK || at != 0 {
		t.Errorf("Canon = %d bytes, %d, %d", len(c), e, at)
	}
	b = []byte(`["a` + a + `",1e9]`)
	if c, e, at := cjson.Canon(b); len(c) != 0 || e != api.ErrLong || at != api.MaxJSON {
		t.Errorf("Canon = %d bytes, %d, %d", len(c), e, at)
	}
	if v, e, at := cjson.Loose(b); len(v.Items) != 2 || v.Items[1].Int != 1_000_000_000 || e != api.OK || at != 0 {
		t.Errorf("Loose: %d, %d", e, at)
	}
	if v, e, at := cjson.Parse(b); !same(v, null) || e != api.ErrForm || at != len(a)+6 {
		t.Errorf("Parse = %d, %d", e, at)
	}
	many := []byte("[" + strings.Repeat("-1e18,", api.MaxJSON/12) + "1]")
	if c, e, at := cjson.Canon(many); len(c) != 0 || e != api.ErrLong || at != api.MaxJSON {
		t.Errorf("Canon = %d bytes, %d, %d", len(c), e, at)
	}
	if v, e, at := cjson.Parse(many); !same(v, null) || e != api.ErrForm || at != 3 {
		t.Errorf("Parse = %d, %d", e, at)
	}
}

// Promise 13.11: every call ends, on what is long in every way.
func TestLongTexts(t *testing.T) {
	zeros := strings.Repeat("0", api.MaxJSON/2)
	cases := []struct {
		s  string
		n  int
		e  api.Errno
		at int
	}{
		{"0." + zeros + "1e8388609", 1, api.OK, 0},
		{"0." + zeros + "1e8388608", 0, api.ErrInteger, 0},
		{"1" + zeros + "e-8388608", 1, api.OK, 0},
		{"1" + zeros + "e-8388609", 0, api.ErrInteger, 0},
		{"1" + zeros, 0, api.ErrRange, 0},
		{"1e-" + zeros + "1", 0, api.ErrInteger, 0},
		{"1e" + zeros + "1", 10, api.OK, 0},
		{"1e1" + zeros, 0, api.ErrRange, 0},
		{"0e1" + zeros, 0, api.OK, 0},
		{"0." + zeros + "1e9999999999", 0, api.ErrRange, 0},
		{"1" + zeros + "e-9999999999", 0, api.ErrInteger, 0},
		{"0." + zeros + "1e0000000008388610", 10, api.OK, 0},
		{"0" + zeros, 0, api.ErrByte, 1},
	}
	for _, c := range cases {
		want := null
		if c.e == api.OK {
			want = num(c.n)
		}
		if v, e, at := cjson.Loose([]byte(c.s)); !same(v, want) || e != c.e || at != c.at {
			t.Errorf("Loose(%s..) = %v, %d, %d", c.s[:5], v, e, at)
		}
	}
	escaped := `"` + strings.Repeat(`\ud83d\ude00`, api.MaxJSON/12-1) + `"`
	if v, e, _ := cjson.Loose([]byte(escaped)); v.Text != strings.Repeat("\U0001f600", api.MaxJSON/12-1) || e != api.OK {
		t.Error("Loose of many escapes")
	}
	if v, e, _ := cjson.Loose([]byte("[" + strings.Repeat("[],", 1<<20) + "1]")); len(v.Items) != 1<<20+1 || e != api.OK {
		t.Error("Loose of many items")
	}
}
