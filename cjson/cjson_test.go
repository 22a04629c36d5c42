package cjson_test

import (
	"slices"
	"strconv"
	"strings"
	"testing"

	"annals/api"
	"annals/cjson"
)

// The calls, as the chapter lists them.
var (
	_ func(api.Value) ([]byte, api.Errno)          = cjson.Print
	_ func([]byte) (api.Value, api.Errno, int)     = cjson.Parse
	_ func([]byte) (api.Value, api.Errno, int)     = cjson.Loose
	_ func([]byte) ([]byte, api.Errno, int)        = cjson.Canon
	_ func(api.Value, ...string) (api.Value, bool) = cjson.Get
	_                                              = [...]api.Errno{api.ErrLong, api.ErrEnd, api.ErrByte, api.ErrInteger, api.ErrRange, api.ErrUTF, api.ErrBackslash, api.ErrDeep, api.ErrMember, api.ErrForm, api.ErrValue}
)

var null = api.Value{}

func flag(n int) api.Value              { return api.Value{Kind: api.JBool, Int: n} }
func num(n int) api.Value               { return api.Value{Kind: api.JInt, Int: n} }
func text(s string) api.Value           { return api.Value{Kind: api.JText, Text: s} }
func list(items ...api.Value) api.Value { return api.Value{Kind: api.JList, Items: items} }

// object is an object of names, parted by bars, and items.
func object(names string, items ...api.Value) api.Value {
	return api.Value{Kind: api.JObject, Names: strings.Split(names, "|"), Items: items}
}

// nested is arrays and objects in turn, so many deep.
func nested(n int) api.Value {
	v := list()
	for i := range n - 1 {
		if v = list(v); i%2 == 0 {
			v = object("a", v.Items...)
		}
	}
	return v
}

// same tells whether two values are the same, field by field; nil and empty lists are.
func same(a, b api.Value) bool {
	return a.Kind == b.Kind && a.Int == b.Int && a.Text == b.Text && slices.Equal(a.Names, b.Names) && slices.EqualFunc(a.Items, b.Items, same)
}

// short is the beginning of a text, for a test's complaint.
func short(s string) string { return strconv.Quote(s[:min(len(s), 60)]) }

// printed are values in order and their texts.
var printed = []struct {
	v api.Value
	s string
}{
	{null, `null`},
	{flag(0), `false`},
	{flag(1), `true`},
	{num(0), `0`},
	{num(7), `7`},
	{num(-10), `-10`},
	{num(1<<63 - 1), `9223372036854775807`},
	{num(-1 << 63), `-9223372036854775808`},
	{text(""), `""`},
	{text("a b"), `"a b"`},
	{text("\"\\/"), `"\"\\/"`},
	{text("\b\t\n\f\r"), `"\b\t\n\f\r"`},
	{text("\x00\x01\x02\x03\x04\x05\x06\x07"), `"\u0000\u0001\u0002\u0003\u0004\u0005\u0006\u0007"`},
	{text("\x0b\x0e\x0f"), `"\u000b\u000e\u000f"`},
	{text("\x10\x11\x12\x13\x14\x15\x16\x17"), `"\u0010\u0011\u0012\u0013\u0014\u0015\u0016\u0017"`},
	{text("\x18\x19\x1a\x1b\x1c\x1d\x1e\x1f"), `"\u0018\u0019\u001a\u001b\u001c\u001d\u001e\u001f"`},
	{text(" !~\x7f"), "\" !~\x7f\""},
	{text("<>&'`"), "\"<>&'`\""},
	{text("\u0080\u00e9\u07ff\u0800\u2028\ud7ff\ue000\ufeff\ufffd\uffff"), "\"\u0080\u00e9\u07ff\u0800\u2028\ud7ff\ue000\ufeff\ufffd\uffff\""},
	{text("\U00010000\U0001f600\U0010ffff"), "\"\U00010000\U0001f600\U0010ffff\""},
	{list(), `[]`},
	{list(null), `[null]`},
	{list(num(1), num(2), num(1)), `[1,2,1]`},
	{list(list(), list(list(num(-1)))), `[[],[[-1]]]`},
	{api.Value{Kind: api.JObject}, `{}`},
	{object("", null), `{"":null}`},
	{object("|\n| |A|a|ab|b|\u00e9|\uffff|\U00010000", num(0), num(1), num(2), num(3), num(4), num(5), num(6), num(7), num(8), num(9)),
		"{\"\":0,\"\\n\":1,\" \":2,\"A\":3,\"a\":4,\"ab\":5,\"b\":6,\"\u00e9\":7,\"\uffff\":8,\"\U00010000\":9}"},
	{object("a|b", object("c|d", text("x"), flag(1)), list(object("e", null))), `{"a":{"c":"x","d":true},"b":[{"e":null}]}`},
	{nested(16), `{"a":[{"a":[{"a":[{"a":[{"a":[{"a":[{"a":[{"a":[]}]}]}]}]}]}]}]}`},
}

// Promises 13.1, 13.2, 13.3, 13.4 and 13.6: values in order and their canonical texts, in both directions.
func TestCanonicalTexts(t *testing.T) {
	for _, c := range printed {
		if b, e := cjson.Print(c.v); string(b) != c.s || e != api.OK {
			t.Errorf("Print(%v) = %s, %d, not %s", c.v, b, e, c.s)
		}
		if v, e, at := cjson.Loose([]byte(c.s)); !same(v, c.v) || e != api.OK || at != 0 {
			t.Errorf("Loose(%s) = %v, %d, %d", c.s, v, e, at)
		}
		if v, e, at := cjson.Parse([]byte(c.s)); !same(v, c.v) || e != api.OK || at != 0 {
			t.Errorf("Parse(%s) = %v, %d, %d", c.s, v, e, at)
		}
		if b, e, at := cjson.Canon([]byte(c.s)); string(b) != c.s || e != api.OK || at != 0 {
			t.Errorf("Canon(%s) = %s, %d, %d", c.s, b, e, at)
		}
	}
}

// Promise 13.1: the objects of a text are in order, whatever order their values are in; empty lists are as none.
func TestPrintPutsInOrder(t *testing.T) {
	cases := []struct {
		v api.Value
		s string
	}{
		{object("b|a", num(1), num(2)), `{"a":2,"b":1}`},
		{object("c|a|b", num(1), num(2), num(3)), `{"a":2,"b":3,"c":1}`},
		{object("b|ab|a|aa|", num(1), num(2), num(3), num(4), num(5)), `{"":5,"a":3,"aa":4,"ab":2,"b":1}`},
		{object("\U00010000|\uffff", num(1), num(2)), "{\"\uffff\":2,\"\U00010000\":1}"},
		{object("a|\n|\"", num(1), num(2), num(3)), `{"\n":2,"\"":3,"a":1}`},
		{list(object("b|a", object("d|c", null, null), list(object("f|e", null, null)))), `[{"a":[{"e":null,"f":null}],"b":{"c":null,"d":null}}]`},
		{api.Value{Kind: api.JObject, Names: []string{}, Items: []api.Value{}}, `{}`},
		{api.Value{Kind: api.JList, Names: []string{}, Items: []api.Value{}}, `[]`},
		{api.Value{Names: []string{}, Items: []api.Value{}}, `null`},
	}
	for _, c := range cases {
		if b, e := cjson.Print(c.v); string(b) != c.s || e != api.OK {
			t.Errorf("Print(%v) = %s, %d, not %s", c.v, b, e, c.s)
		}
	}
}

// unsound are values that have no text, and why.
var unsound = []struct {
	v api.Value
	e api.Errno
}{
	{api.Value{Kind: -1}, api.ErrValue},
	{api.Value{Kind: 6}, api.ErrValue},
	{api.Value{Kind: -1 << 63}, api.ErrValue},
	{api.Value{Int: 1}, api.ErrValue},
	{api.Value{Text: "x"}, api.ErrValue},
	{api.Value{Names: []string{""}}, api.ErrValue},
	{api.Value{Items: []api.Value{null}}, api.ErrValue},
	{flag(2), api.ErrValue},
	{flag(-1), api.ErrValue},
	{api.Value{Kind: api.JBool, Text: "x"}, api.ErrValue},
	{api.Value{Kind: api.JBool, Names: []string{""}}, api.ErrValue},
	{api.Value{Kind: api.JBool, Items: []api.Value{null}}, api.ErrValue},
	{api.Value{Kind: api.JInt, Text: "x"}, api.ErrValue},
	{api.Value{Kind: api.JInt, Names: []string{""}}, api.ErrValue},
	{api.Value{Kind: api.JInt, Items: []api.Value{null}}, api.ErrValue},
	{api.Value{Kind: api.JText, Int: -1}, api.ErrValue},
	{api.Value{Kind: api.JText, Names: []string{""}}, api.ErrValue},
	{api.Value{Kind: api.JText, Items: []api.Value{null}}, api.ErrValue},
	{api.Value{Kind: api.JList, Int: 1}, api.ErrValue},
	{api.Value{Kind: api.JList, Text: "x"}, api.ErrValue},
	{api.Value{Kind: api.JList, Names: []string{""}, Items: []api.Value{null}}, api.ErrValue},
	{api.Value{Kind: api.JObject, Int: 1}, api.ErrValue},
	{api.Value{Kind: api.JObject, Text: "x"}, api.ErrValue},
	{object("a|b", null), api.ErrValue},
	{object("a", null, null), api.ErrValue},
	{api.Value{Kind: api.JObject, Items: []api.Value{null}}, api.ErrValue},
	{nested(17), api.ErrDeep},
	{nested(40), api.ErrDeep},
	{text("\xff"), api.ErrUTF},
	{text("a\x80"), api.ErrUTF},
	{text("\xe2\x82"), api.ErrUTF},
	{text("\xc0\x80"), api.ErrUTF},
	{text("\xed\xa0\x80"), api.ErrUTF},
	{text("\xed\xbf\xbf"), api.ErrUTF},
	{text("\xf4\x90\x80\x80"), api.ErrUTF},
	{text("\xf0\x8f\xbf\xbf"), api.ErrUTF},
	{text("\ufffd\xff"), api.ErrUTF},
	{object("a|\xff", null, null), api.ErrUTF},
	{object("a|a", null, null), api.ErrMember},
	{object("|b|", null, null, null), api.ErrMember},
	// Of several errors, the first on the way through the value.
	{api.Value{Kind: api.JText, Text: "\xff", Int: 1}, api.ErrValue},
	{object("a|a|\xff", null, null), api.ErrValue},
	{object("a|a|\xff", null, null, null), api.ErrMember},
	{object("a|\xff|a", null, null, null), api.ErrUTF},
	{object("a|a", api.Value{Kind: 9}, null), api.ErrMember},
	{object("b|a", text("\xff"), api.Value{Kind: 9}), api.ErrUTF},
	{object("b|a", api.Value{Kind: 9}, text("\xff")), api.ErrValue},
	{list(text("\xff"), api.Value{Kind: 9}), api.ErrUTF},
	{list(list(object("a|a", null, null)), api.Value{Kind: 9}), api.ErrMember},
	{list(nested(16), api.Value{Kind: 9}), api.ErrDeep},
	{list(api.Value{Kind: 9}, nested(16)), api.ErrValue},
	{wrapped(16, object("a|a", null, null)), api.ErrDeep},
	{wrapped(16, object("a|a", null)), api.ErrValue},
	{wrapped(16, list(api.Value{Kind: 9})), api.ErrDeep},
	{wrapped(16, api.Value{Kind: 9}), api.ErrValue},
	{wrapped(16, text("\xff")), api.ErrUTF},
	{wrapped(15, object("a|a", null, null)), api.ErrMember},
}

// wrapped is a value in so many arrays.
func wrapped(n int, v api.Value) api.Value {
	for range n {
		v = list(v)
	}
	return v
}

// Promise 13.1: of a value that is not sound no bytes, and the first error; what lies at the greatest depth and nests no more is sound.
func TestPrintRefuses(t *testing.T) {
	for i, c := range unsound {
		if b, e := cjson.Print(c.v); len(b) != 0 || e != c.e {
			t.Errorf("row %d: Print(%v) = %s, %d, not %d", i, c.v, b, e, c.e)
		}
	}
	for _, v := range []api.Value{nested(16), wrapped(16, num(1)), wrapped(15, object("a", text("b")))} {
		if b, e := cjson.Print(v); len(b) == 0 || e != api.OK {
			t.Errorf("Print(%v) = %s, %d", v, b, e)
		}
	}
}

// read are texts that are not canonical, and what they stand for.
var read = []struct {
	s string
	v api.Value
}{
	{" null ", null},
	{" \t\n\r true\r\n\t ", flag(1)},
	{"false\n", flag(0)},
	{"-0", num(0)},
	{"0.000", num(0)},
	{"-0.0e-0", num(0)},
	{"0e99", num(0)},
	{"0E+0", num(0)},
	{"0e999999999999999999999", num(0)},
	{"0e-999999999999999999999", num(0)},
	{"0.00000e999999999999999999999", num(0)},
	{"1.50e1", num(15)},
	{"[1.50e1]", list(num(15))},
	{"10e-1", num(1)},
	{"-1.0", num(-1)},
	{"1e0", num(1)},
	{"1E+00000000000000000000000002", num(100)},
	{"100e-00000000000000000000000002", num(1)},
	{"0.00012e5", num(12)},
	{"1200000e-5", num(12)},
	{"1e18", num(1_000_000_000_000_000_000)},
	{"0.9e19", num(9_000_000_000_000_000_000)},
	{"9223372036854775807.000", num(1<<63 - 1)},
	{"9.223372036854775807e18", num(1<<63 - 1)},
	{"922337203685477580700000e-5", num(1<<63 - 1)},
	{"-9223372036854775808e0", num(-1 << 63)},
	{"-0.0009223372036854775808e22", num(-1 << 63)},
	{"1" + strings.Repeat("0", 500) + "e-500", num(1)},
	{"0." + strings.Repeat("0", 499) + "25e501", num(25)},
	{`"\"\\\/\b\f\n\r\t"`, text("\"\\/\b\f\n\r\t")},
	{`"\u0000\u001f\u0020\u0022\u005c\u007F"`, text("\x00\x1f \"\\\x7f")},
	{`"\u00e9\u00E9\uABCD\uabcd\uaBcD"`, text("\u00e9\u00e9\uabcd\uabcd\uabcd")},
	{`"\ud7ff\ue000\uffff"`, text("\ud7ff\ue000\uffff")},
	{`"\ud83d\ude00"`, text("\U0001f600")},
	{`"\ud800\udc00\uDBFF\uDFFF"`, text("\U00010000\U0010ffff")},
	{`"\ud800\udfff\udbff\udc00"`, text("\U000103ff\U0010fc00")},
	{`"a\ud83d\ude00b"`, text("a\U0001f600b")},
	{"[ ]", list()},
	{"[\n\t\r ]", list()},
	{"{ }", api.Value{Kind: api.JObject}},
	{" [ 1 , [ ] , {} , \"\" ] ", list(num(1), list(), api.Value{Kind: api.JObject}, text(""))},
	{`{"b":1,"a":2}`, object("a|b", num(2), num(1))},
	{" { \"b\" : 1 , \"a\" : { \"d\" :2 ,\"c\": 3 } } ", object("a|b", object("c|d", num(3), num(2)), num(1))},
	{`{"a":{"a":{"a":1}},"A":2}`, object("A|a", num(2), object("a", object("a", num(1))))},
	{`{"\u0062":1,"\u0061":2}`, object("a|b", num(2), num(1))},
	{"{\"\U00010000\":1,\"\uffff\":2}", object("\uffff|\U00010000", num(2), num(1))},
	{" " + strings.Repeat("[", 16) + strings.Repeat("]", 16), wrapped(15, list())},
}

// Promises 13.2, 13.3 and 13.4: any text of the grammar is read for what it stands for, Canon writes that canonically, and Parse refuses it.
func TestLooseReads(t *testing.T) {
	for _, c := range read {
		if v, e, at := cjson.Loose([]byte(c.s)); !same(v, c.v) || e != api.OK || at != 0 {
			t.Errorf("Loose(%s) = %v, %d, %d", short(c.s), v, e, at)
		}
		want, _ := cjson.Print(c.v)
		if b, e, at := cjson.Canon([]byte(c.s)); string(b) != string(want) || e != api.OK || at != 0 {
			t.Errorf("Canon(%s) = %s, %d, %d", short(c.s), b, e, at)
		}
		if v, e, at := cjson.Parse([]byte(c.s)); !same(v, null) || e != api.ErrForm || at != parting(c.s, string(want)) {
			t.Errorf("Parse(%s) = %v, %d, %d", short(c.s), v, e, at)
		}
	}
}

// parting is the length of what two texts have in common at their beginnings.
func parting(a, b string) int {
	for i := range len(a) {
		if !strings.HasPrefix(b, a[:i+1]) {
			return i
		}
	}
	return len(a)
}

// Promise 13.3: where Loose reads a text that is not canonical, the place is the first at which it parts from the canonical one.
func TestWhereItIsNotCanonical(t *testing.T) {
	cases := []struct {
		s  string
		at int
	}{
		{`{"b":1,"a":2}`, 2}, {`{"a":2,"c":1,"b":1}`, 8}, {`[1, 2]`, 3}, {`1 `, 1}, {`1  `, 1}, {` 1`, 0}, {`-0`, 0}, {`1e3`, 1}, {`1.0`, 1}, {`10e-1`, 1}, {`1e0`, 1},
		{`"\u000a"`, 2}, {`"\u000B"`, 6}, {`"\u001F"`, 6}, {`"\u0041"`, 1}, {`"\u007f"`, 1}, {`"\/"`, 1}, {`"/\/"`, 2}, {`"\ud83d\ude00"`, 1}, {"[ ]", 1}, {"{ }", 1}, {"{} ", 2},
		{`{"a" :1}`, 4}, {`{"a": 1}`, 5}, {`{"a":1 }`, 6}, {`{"a":1, "b":1}`, 7}, {"[1,2] \n", 5}, {`[[[1.0]]]`, 4},
	}
	for _, c := range cases {
		if v, e, at := cjson.Parse([]byte(c.s)); !same(v, null) || e != api.ErrForm || at != c.at {
			t.Errorf("Parse(%s) = %v, %d, %d, not ErrForm, %d", c.s, v, e, at, c.at)
		}
	}
}

// refused are texts that Loose does not read, why, and where.
var refused = []struct {
	s  string
	e  api.Errno
	at int
}{
	{"", api.ErrEnd, 0}, {" \t\r\n", api.ErrEnd, 4}, {"\v", api.ErrByte, 0}, {"\x00", api.ErrByte, 0}, {"\xff", api.ErrByte, 0}, {"\xef\xbb\xbf1", api.ErrByte, 0}, {"\u00a01", api.ErrByte, 0},
	{"n", api.ErrEnd, 1}, {"nul", api.ErrEnd, 3}, {"nulL", api.ErrByte, 3}, {"nulll", api.ErrByte, 4}, {"tru", api.ErrEnd, 3}, {"trve", api.ErrByte, 2}, {"fals", api.ErrEnd, 4}, {"falsE", api.ErrByte, 4}, {"Null", api.ErrByte, 0}, {"NaN", api.ErrByte, 0}, {"nan", api.ErrByte, 1}, {"nu ll", api.ErrByte, 2}, {"truefalse", api.ErrByte, 4},
	{"[", api.ErrEnd, 1}, {"[ ", api.ErrEnd, 2}, {"[1", api.ErrEnd, 2}, {"[1,", api.ErrEnd, 3}, {"[1, ", api.ErrEnd, 4}, {"[1,]", api.ErrByte, 3}, {"[1, ]", api.ErrByte, 4}, {"[,]", api.ErrByte, 1}, {"[,1]", api.ErrByte, 1}, {"[1,,2]", api.ErrByte, 3}, {"[1 2]", api.ErrByte, 3}, {"[}", api.ErrByte, 1}, {"[1}", api.ErrByte, 2}, {"[1:2]", api.ErrByte, 2}, {"]", api.ErrByte, 0}, {"[]]", api.ErrByte, 2}, {"[][]", api.ErrByte, 2}, {"[(1)]", api.ErrByte, 1},
	{"{", api.ErrEnd, 1}, {"{ ", api.ErrEnd, 2}, {"{\"a\"", api.ErrEnd, 4}, {"{\"a\" ", api.ErrEnd, 5}, {"{\"a\":", api.ErrEnd, 5}, {"{\"a\": ", api.ErrEnd, 6}, {"{\"a\":1", api.ErrEnd, 6}, {"{\"a\":1,", api.ErrEnd, 7}, {"{\"a\":1,}", api.ErrByte, 7}, {"{\"a\":1, }", api.ErrByte, 8}, {"{,}", api.ErrByte, 1}, {"{1:2}", api.ErrByte, 1}, {"{a:2}", api.ErrByte, 1}, {"{\"a\" 1}", api.ErrByte, 5}, {"{\"a\",1}", api.ErrByte, 4}, {"{\"a\":}", api.ErrByte, 5}, {"{\"a\"}", api.ErrByte, 4}, {"{]", api.ErrByte, 1}, {"{\"a\":1]", api.ErrByte, 6}, {"{\"a\":1 \"b\":2}", api.ErrByte, 7}, {"{\"a\":1:2}", api.ErrByte, 6}, {"}", api.ErrByte, 0},
	{"1 1", api.ErrByte, 2}, {"1,", api.ErrByte, 1}, {"1\x00", api.ErrByte, 1}, {"1\xff", api.ErrByte, 1}, {"\"\"x", api.ErrByte, 2}, {"null\f", api.ErrByte, 4}, {"1//", api.ErrByte, 1},
	{"-", api.ErrEnd, 1}, {"-a", api.ErrByte, 1}, {"--1", api.ErrByte, 1}, {"- 1", api.ErrByte, 1}, {"-.5", api.ErrByte, 1}, {"+1", api.ErrByte, 0}, {".5", api.ErrByte, 0}, {"01", api.ErrByte, 1}, {"-01", api.ErrByte, 2}, {"00", api.ErrByte, 1}, {"[01]", api.ErrByte, 2}, {"0x1", api.ErrByte, 1}, {"1_000", api.ErrByte, 1}, {"1-", api.ErrByte, 1}, {"\u0661", api.ErrByte, 0},
	{"1.", api.ErrEnd, 2}, {"1.x", api.ErrByte, 2}, {"1.e1", api.ErrByte, 2}, {"1.]", api.ErrByte, 2}, {"1.5.", api.ErrInteger, 0}, {"1.0.", api.ErrByte, 3}, {"1e", api.ErrEnd, 2}, {"1E", api.ErrEnd, 2}, {"1e+", api.ErrEnd, 3}, {"1e-", api.ErrEnd, 3}, {"1ex", api.ErrByte, 2}, {"1e+x", api.ErrByte, 3}, {"1e+-1", api.ErrByte, 3}, {"1ee", api.ErrByte, 2}, {"1e1e1", api.ErrByte, 3}, {"1e1.0", api.ErrByte, 3}, {"1.5e", api.ErrEnd, 4}, {"1.5ex", api.ErrByte, 4}, {"1e1x", api.ErrByte, 3},
	{"1.5", api.ErrInteger, 0}, {"1.5]", api.ErrInteger, 0}, {"1.5x", api.ErrInteger, 0}, {"[1.5", api.ErrInteger, 1}, {"[ 15e-1]", api.ErrInteger, 2}, {"{\"a\":-0.1,}", api.ErrInteger, 5}, {"1e-1", api.ErrInteger, 0}, {"-10e-2", api.ErrInteger, 0}, {"0.1", api.ErrInteger, 0}, {"1e-999999999999999999999", api.ErrInteger, 0}, {"100e-3", api.ErrInteger, 0}, {"9223372036854775808.5", api.ErrInteger, 0}, {"1" + strings.Repeat("0", 499) + "e-500", api.ErrInteger, 0}, {strings.Repeat("9", 500) + ".1", api.ErrInteger, 0},
	{"9223372036854775808", api.ErrRange, 0}, {"-9223372036854775809", api.ErrRange, 0}, {"1e400", api.ErrRange, 0}, {"1e19", api.ErrRange, 0}, {"10000000000000000000", api.ErrRange, 0}, {"18446744073709551616", api.ErrRange, 0}, {"18446744073709551617", api.ErrRange, 0}, {"-9223372036854775808e1", api.ErrRange, 0}, {"9.223372036854775808e18]", api.ErrRange, 0}, {"[[1e19", api.ErrRange, 2}, {"1e9999999999", api.ErrRange, 0}, {"1e999999999999999999999", api.ErrRange, 0}, {"1e9223372036854775808", api.ErrRange, 0}, {"1e18446744073709551616", api.ErrRange, 0}, {"1e-18446744073709551616", api.ErrInteger, 0}, {"9e999999999", api.ErrRange, 0}, {"9e-999999999", api.ErrInteger, 0},
	{"\"", api.ErrEnd, 1}, {"\"a", api.ErrEnd, 2}, {"\"\u00e9", api.ErrEnd, 3}, {"\"a\n\"", api.ErrByte, 2}, {"\"\x00\"", api.ErrByte, 1}, {"\"\x1f\"", api.ErrByte, 1}, {"\"\t", api.ErrByte, 1}, {"'a'", api.ErrByte, 0},
	{"\"a\xff", api.ErrUTF, 2}, {"\"\x80\"", api.ErrUTF, 1}, {"\"\xc0\x80\"", api.ErrUTF, 1}, {"\"\xc1\xbf\"", api.ErrUTF, 1}, {"\"\xe2\x82", api.ErrUTF, 1}, {"\"\xe2\x82\"", api.ErrUTF, 1}, {"\"\xe2\"", api.ErrUTF, 1}, {"\"\xf0\x9f\x98", api.ErrUTF, 1}, {"\"\xe0\x9f\xbf\"", api.ErrUTF, 1}, {"\"\xed\xa0\x80\"", api.ErrUTF, 1}, {"\"\xf0\x8f\xbf\xbf\"", api.ErrUTF, 1}, {"\"\xf4\x90\x80\x80\"", api.ErrUTF, 1}, {"\"\xf5\x80\x80\x80\"", api.ErrUTF, 1}, {"\"\ufffd\xef\xbf\"", api.ErrUTF, 4}, {"{\"\xff\":1}", api.ErrUTF, 2}, {"\"\xff\n", api.ErrUTF, 1}, {"\"\n\xff", api.ErrByte, 1},
	{"\"\\", api.ErrEnd, 2}, {"\"\\q\"", api.ErrBackslash, 1}, {"\"\\U0041\"", api.ErrBackslash, 1}, {"\"\\x41\"", api.ErrBackslash, 1}, {"\"\\'\"", api.ErrBackslash, 1}, {"\"\\0\"", api.ErrBackslash, 1}, {"\"\\v\"", api.ErrBackslash, 1}, {"\"\\\n\"", api.ErrBackslash, 1}, {"\"\\\xff\"", api.ErrBackslash, 1}, {"\"ab\\ \"", api.ErrBackslash, 3}, {"\"\\\\\\q\"", api.ErrBackslash, 3}, {"{\"a\\q\":1}", api.ErrBackslash, 3},
	{"\"\\u", api.ErrEnd, 3}, {"\"\\u12", api.ErrEnd, 5}, {"\"\\u123", api.ErrEnd, 6}, {"\"\\u1234", api.ErrEnd, 7}, {"\"\\u\"", api.ErrBackslash, 1}, {"\"\\u12g4\"", api.ErrBackslash, 1}, {"\"\\u12g", api.ErrBackslash, 1}, {"\"\\u123\"", api.ErrBackslash, 1}, {"\"\\u+123\"", api.ErrBackslash, 1}, {"\"\\u 123\"", api.ErrBackslash, 1}, {"\"\\u00\n0\"", api.ErrBackslash, 1}, {"\"\\u00\xff0\"", api.ErrBackslash, 1}, {"\"\\u{41}\"", api.ErrBackslash, 1}, {"\"\\u000G\"", api.ErrBackslash, 1}, {"\"\\u000:\"", api.ErrBackslash, 1}, {"\"\\u000@\"", api.ErrBackslash, 1}, {"\"\\u000`\"", api.ErrBackslash, 1}, {"\"\\u000/\"", api.ErrBackslash, 1},
	{"\"\\ud83dx\"", api.ErrBackslash, 1}, {"\"\\ud83d", api.ErrEnd, 7}, {"\"\\ud83d\"", api.ErrBackslash, 1}, {"\"\\ud83d\n", api.ErrBackslash, 1}, {"\"\\ud83d\xff", api.ErrBackslash, 1}, {"\"\\ud83d\\", api.ErrEnd, 8}, {"\"\\ud83d\\n\"", api.ErrBackslash, 1}, {"\"\\ud83d\\\\\"", api.ErrBackslash, 1}, {"\"\\ud83d\\u", api.ErrEnd, 9}, {"\"\\ud83d\\u00", api.ErrEnd, 11}, {"\"\\ud83d\\u004", api.ErrEnd, 12}, {"\"\\ud83d\\u0041", api.ErrBackslash, 1}, {"\"\\ud83d\\u00g4\"", api.ErrBackslash, 1}, {"\"\\ud83d\\ud83d", api.ErrBackslash, 1}, {"\"\\ud83d\\ue000", api.ErrBackslash, 1}, {"\"\\ud83d\\udbff\\udc00", api.ErrBackslash, 1}, {"\"\\udbff\\udbff", api.ErrBackslash, 1}, {"\"\\ud83d\\ude0", api.ErrEnd, 12}, {"\"\\ud83d\\ude00", api.ErrEnd, 13},
	{"\"\\udc", api.ErrEnd, 5}, {"\"\\udc00", api.ErrBackslash, 1}, {"\"\\udc00\"", api.ErrBackslash, 1}, {"\"ab\\udfff\"", api.ErrBackslash, 3}, {"\"\\ud83d\\ude00\\ude00\"", api.ErrBackslash, 13}, {"\"\\u0041\\udc00", api.ErrBackslash, 7}, {"\"\\ud800\\udc00\\ud800\"", api.ErrBackslash, 13},
	{"{\"a\":1,\"a\":2}", api.ErrMember, 7}, {"{\"a\":1,\"\\u0061\":2}", api.ErrMember, 7}, {"{\"\\u0061\":1, \"a\"", api.ErrMember, 13}, {"{\"a\":1,\"a", api.ErrEnd, 9}, {"{\"a\":1,\"a\"", api.ErrMember, 7}, {"{\"a\":1,\"a\"x", api.ErrMember, 7}, {"{\"\":1,\"b\":2,\"\":3}", api.ErrMember, 12}, {"{\"a\":1.5,\"a\":2}", api.ErrInteger, 5}, {"{\"a\":{\"b\":1,\"b\":2},\"a\":1}", api.ErrMember, 12}, {"{\"b\":1,\"a\":2,\"b\":3}", api.ErrMember, 13},
	{strings.Repeat("[", 17) + strings.Repeat("]", 17), api.ErrDeep, 16}, {strings.Repeat("[", 17), api.ErrDeep, 16}, {strings.Repeat("[", 16), api.ErrEnd, 16}, {strings.Repeat("{\"a\":", 17), api.ErrDeep, 80}, {strings.Repeat("[ ", 17), api.ErrDeep, 32}, {strings.Repeat("[", 16) + "{", api.ErrDeep, 16}, {strings.Repeat("{\"a\":", 16) + "[", api.ErrDeep, 80}, {strings.Repeat("[", 16) + "1.5,[", api.ErrInteger, 16}, {strings.Repeat("[", 16) + "],[[", api.ErrDeep, 19}, {strings.Repeat("[", 16) + "x[", api.ErrByte, 16}, {strings.Repeat("[", 1<<20), api.ErrDeep, 16},
}

// Promises 13.2, 13.3 and 13.4: of a text that is not read no value and no bytes, the error that comes first from the left, and its place.
func TestLooseRefuses(t *testing.T) {
	for _, c := range refused {
		if v, e, at := cjson.Loose([]byte(c.s)); !same(v, null) || e != c.e || at != c.at {
			t.Errorf("Loose(%s) = %v, %d, %d, not %d, %d", short(c.s), v, e, at, c.e, c.at)
		}
		if v, e, at := cjson.Parse([]byte(c.s)); !same(v, null) || e != c.e || at != c.at {
			t.Errorf("Parse(%s) = %v, %d, %d, not %d, %d", short(c.s), v, e, at, c.e, c.at)
		}
		if b, e, at := cjson.Canon([]byte(c.s)); len(b) != 0 || e != c.e || at != c.at {
			t.Errorf("Canon(%s) = %s, %d, %d, not %d, %d", short(c.s), b, e, at, c.e, c.at)
		}
	}
}
