package cjson_test

import (
	"bytes"
	"encoding/json"
	"fmt"
	"math/rand"
	"slices"
	"strconv"
	"strings"
	"testing"

	"annals/api"
	"annals/cjson"
)

// Promise 13.1: Print of values sound and not, against the second reading.
func TestPrintAgainstASecondReading(t *testing.T) {
	rnd := rand.New(rand.NewSource(131))
	r := escapes()
	seen := map[api.Errno]int{}
	for range 60000 {
		v := anyValue(rnd, 4)
		for range rnd.Intn(3) {
			v = spoiled(rnd, v)
		}
		want, why := "", api.OK
		if all := faults(v, 0); len(all) > 0 {
			why = all[0]
		} else {
			want = spelt(v, r)
		}
		seen[why]++
		if b, e := cjson.Print(v); string(b) != want || e != why {
			t.Fatalf("Print(%v) = %s, %d, not %s, %d", v, b, e, want, why)
		}
	}
	for _, e := range []api.Errno{api.OK, api.ErrValue, api.ErrDeep, api.ErrUTF, api.ErrMember} {
		if seen[e] < 200 {
			t.Errorf("error %d came %d times alone", e, seen[e])
		}
	}
}

// Promises 13.6 and 13.8: what is printed is read, as the value in order, and printed again as the same text; it lies in the published grammar, and its names rise.
func TestPrintedIsRead(t *testing.T) {
	rnd := rand.New(rand.NewSource(136))
	for range 20000 {
		v := anyValue(rnd, pick(rnd, 3, 4, 16))
		b, e := cjson.Print(v)
		if e != api.OK {
			t.Fatalf("Print(%v): %d", v, e)
		}
		published(t, b)
		w, e, at := cjson.Parse(b)
		if !same(w, inOrder(v)) || e != api.OK || at != 0 {
			t.Fatalf("Parse(%s) = %v, %d, %d, not %v", b, w, e, at, inOrder(v))
		}
		if again, e := cjson.Print(w); !bytes.Equal(again, b) || e != api.OK {
			t.Fatalf("Print(Parse(%s)) = %s, %d", b, again, e)
		}
	}
}

// published tells whether a text is one of the published grammar, by the library's reader, in which the names of each object rise.
func published(t *testing.T, b []byte) {
	t.Helper()
	if !json.Valid(b) {
		t.Fatalf("%s is no JSON", b)
	}
	d := json.NewDecoder(bytes.NewReader(b))
	type level struct {
		object, value bool // value: a member's value comes next
		names         []string
	}
	levels := []level{{}}
	for {
		token, err := d.Token()
		if err != nil {
			break
		}
		top := &levels[len(levels)-1]
		switch {
		case token == json.Delim(']') || token == json.Delim('}'):
			if levels = levels[:len(levels)-1]; !slices.IsSorted(top.names) || len(slices.Compact(top.names)) != len(top.names) {
				t.Fatalf("%s: the names %q do not rise", b, top.names)
			}
		case top.object && !top.value:
			top.names, top.value = append(top.names, token.(string)), true
		default:
			top.value = false
			if _, opens := token.(json.Delim); opens {
				levels = append(levels, level{object: token == json.Delim('{')})
			}
		}
	}
}

// Promise 13.7: of two values that are not alike the texts are unlike, and of two that are alike they are the same.
func TestOneText(t *testing.T) {
	rnd := rand.New(rand.NewSource(137))
	both := [2]int{}
	for range 40000 {
		v := anyValue(rnd, 3)
		w := shuffled(rnd, v)
		if rnd.Intn(2) == 0 {
			w = spoiled(rnd, w)
		}
		a, _ := cjson.Print(v)
		b, e := cjson.Print(w)
		if e != api.OK {
			continue
		}
		alike := same(inOrder(v), inOrder(w))
		if bytes.Equal(a, b) != alike {
			t.Fatalf("%v is %s, %v is %s", v, a, w, b)
		}
		if alike {
			both[0]++
		} else {
			both[1]++
		}
	}
	if min(both[0], both[1]) < 500 {
		t.Errorf("so many alike and unlike: %v", both)
	}
}

// shuffled is a value whose objects are in another order.
func shuffled(rnd *rand.Rand, v api.Value) api.Value {
	v.Names, v.Items = slices.Clone(v.Names), slices.Clone(v.Items)
	if v.Kind == api.JObject {
		rnd.Shuffle(len(v.Items), func(i, k int) {
			v.Names[i], v.Names[k] = v.Names[k], v.Names[i]
			v.Items[i], v.Items[k] = v.Items[k], v.Items[i]
		})
	}
	for i := range v.Items {
		v.Items[i] = shuffled(rnd, v.Items[i])
	}
	return v
}

// blanks is some blanks, or none.
func blanks(rnd *rand.Rand) string {
	s := ""
	for rnd.Intn(3) == 0 {
		s += pick(rnd, " ", "\t", "\n", "\r")
	}
	return s
}

// tokens is a text of a value, however ordered and escaped, in the pieces between which blanks may stand.
func tokens(rnd *rand.Rand, v api.Value) []string {
	var out []string
	switch v.Kind {
	case api.JBool:
		return []string{strconv.FormatBool(v.Int == 1)}
	case api.JInt:
		return []string{figures(rnd, v.Int)}
	case api.JText:
		return []string{quoted(rnd, v.Text)}
	case api.JList, api.JObject:
		out = append(out, "....[{"[v.Kind:v.Kind+1])
		for _, i := range rnd.Perm(len(v.Items)) {
			if v.Kind == api.JList {
				i = (len(out) - 1) / 2 % len(v.Items)
			} else {
				out = append(out, quoted(rnd, v.Names[i]), ":")
			}
			out = append(out, "", ",")
			out[len(out)-2] = strings.Join(tokens(rnd, v.Items[i]), blanks(rnd))
		}
		if len(v.Items) > 0 {
			out = out[:len(out)-1]
		}
		return append(out, "....]}"[v.Kind:v.Kind+1])
	}
	return []string{"null"}
}

// figures is a number in one of its many forms.
func figures(rnd *rand.Rand, n int) string {
	s := strconv.Itoa(n)
	if n == 0 {
		return pick(rnd, "0", "-0", "0.0", "0e7", "-0.000E-3", "0e+99999999999")
	}
	sign := ""
	if n < 0 {
		sign, s = "-", s[1:]
	}
	by, letter := rnd.Intn(25), pick(rnd, "e", "E")
	switch rnd.Intn(5) {
	case 0: // zeros behind, taken off again
		return sign + s + strings.Repeat("0", by) + letter + "-" + pick(rnd, "", "00") + strconv.Itoa(by)
	case 1: // the point further ahead
		k := 1 + rnd.Intn(len(s))
		return sign + s[:k] + "." + s[k:] + strings.Repeat("0", by+1) + letter + pick(rnd, "", "+", "+0") + strconv.Itoa(len(s)-k)
	case 2: // ahead of all digits
		return sign + "0." + strings.Repeat("0", by) + s + letter + strconv.Itoa(by+len(s))
	case 3: // without the zeros at its end
		bare := strings.TrimRight(s, "0")
		return sign + bare + letter + strconv.Itoa(len(s)-len(bare))
	}
	return sign + s
}

// quoted is a string in one of its many forms.
func quoted(rnd *rand.Rand, s string) string {
	out := `"`
	for _, r := range s {
		short := map[rune]string{'"': `\"`, '\\': `\\`, '/': `\/`, 8: `\b`, 9: `\t`, 10: `\n`, 12: `\f`, 13: `\r`}[r]
		hex := pick(rnd, `\u%04x`, `\u%04X`)
		switch {
		case short != "" && rnd.Intn(2) == 0:
			out += short
		case r >= ' ' && r != '"' && r != '\\' && rnd.Intn(2) == 0:
			out += string(r)
		case r > 0xffff:
			out += fmt.Sprintf(hex+pick(rnd, `\u%04x`, `\u%04X`), 0xd800+(r-0x10000)/0x400, 0xdc00+(r-0x10000)%0x400)
		default:
			out += fmt.Sprintf(hex, r)
		}
	}
	return out + `"`
}

// Promises 13.2, 13.4, 13.9 and 13.10: a value's text, however it is spaced, ordered and escaped, is read as that value in order; Canon is its one text, which stays as it is and which Parse reads.
func TestAnyFormIsRead(t *testing.T) {
	rnd := rand.New(rand.NewSource(139))
	for range 30000 {
		v := anyValue(rnd, pick(rnd, 2, 4, 16))
		b := []byte(blanks(rnd) + strings.Join(tokens(rnd, v), blanks(rnd)) + blanks(rnd))
		w, e, at := cjson.Loose(b)
		if !same(w, inOrder(v)) || e != api.OK || at != 0 {
			t.Fatalf("Loose(%s) = %v, %d, %d, not %v", b, w, e, at, inOrder(v))
		}
		want, _ := cjson.Print(v)
		c, e, at := cjson.Canon(b)
		if !bytes.Equal(c, want) || e != api.OK || at != 0 {
			t.Fatalf("Canon(%s) = %s, %d, %d, not %s", b, c, e, at, want)
		}
		published(t, c)
		if again, e, at := cjson.Canon(c); !bytes.Equal(again, c) || e != api.OK || at != 0 {
			t.Fatalf("Canon(%s) = %s, %d, %d", c, again, e, at)
		}
		if u, e, at := cjson.Parse(c); !same(u, w) || e != api.OK || at != 0 {
			t.Fatalf("Parse(%s) = %v, %d, %d", c, u, e, at)
		}
	}
}

// agree holds all three readers against the second reading.
func agree(t *testing.T, b []byte, r *strings.Replacer) api.Errno {
	t.Helper()
	v, e, at := second(b)
	if got, e2, at2 := cjson.Loose(b); !same(got, v) || e2 != e || at2 != at {
		t.Fatalf("Loose(%q) = %v, %d, %d, not %v, %d, %d", b, got, e2, at2, v, e, at)
	}
	c := ""
	if e == api.OK {
		c = spelt(v, r)
	}
	if got, e2, at2 := cjson.Canon(b); string(got) != c || e2 != e || at2 != at {
		t.Fatalf("Canon(%q) = %s, %d, %d, not %s, %d, %d", b, got, e2, at2, c, e, at)
	}
	was := e
	if e == api.OK && c != string(b) {
		v, e, at = null, api.ErrForm, parting(string(b), c)
	}
	got, e2, at2 := cjson.Parse(b)
	if !same(got, v) || e2 != e || at2 != at {
		t.Fatalf("Parse(%q) = %v, %d, %d, not %v, %d, %d", b, got, e2, at2, v, e, at)
	}
	if e == api.OK { // promise 13.7: whatever Parse reads, Print of it is just those bytes
		if p, e := cjson.Print(got); !bytes.Equal(p, b) || e != api.OK {
			t.Fatalf("Print(Parse(%s)) = %s, %d", b, p, e)
		}
	}
	// The library knows the same grammar, but takes strings that are no UTF-8, and halves.
	if library := json.Valid(b); was == api.OK && !library || (was == api.ErrByte || was == api.ErrEnd) && library {
		t.Fatalf("Loose(%q): %d; the library: %v", b, was, library)
	}
	return was
}

// Promises 13.2, 13.3, 13.4 and 13.7: texts in which bytes are changed, put in, left out or cut off, against the second reading.
func TestMeddledTexts(t *testing.T) {
	rnd := rand.New(rand.NewSource(132))
	r := escapes()
	bits := []string{" ", "\t", "\n", "[", "]", "{", "}", ",", ":", `"`, `\`, "/", "u", "n", "t", "d83d", "dc00", `\ud83d`, `\ude00`, `\u00`, "-", "+", ".", "e", "0", "1", "9", "e-1", "1e19", "null", "true", "a", "\x00", "\x1f", "\x7f", "\x80", "\xc3", "\xe2\x82", "\xed\xa0\x80", "\xff", "\u00e9", `"a":`, `,"a":1`, "[[[[[[[["}
	seen := map[api.Errno]int{}
	for range 60000 {
		v := anyValue(rnd, pick(rnd, 2, 3, 16))
		b := []byte(blanks(rnd) + strings.Join(tokens(rnd, v), blanks(rnd)) + blanks(rnd))
		for range 1 + rnd.Intn(3) {
			at := rnd.Intn(len(b) + 1)
			end := min(at+rnd.Intn(3), len(b))
			switch rnd.Intn(7) {
			case 0:
				b = b[:at]
			case 1:
				b = append(b, pick(rnd, bits...)...)
			case 2:
				b = bytes.Replace(b, []byte("{"), []byte(pick(rnd, `{"a":1,`, `{"\u0061" :2,`, `{"a":{"b":3},`)), 1+rnd.Intn(2))
			case 3:
				k := 1 + rnd.Intn(12)
				b = []byte(strings.Repeat("[", k) + string(b) + strings.Repeat("]", k))
			default:
				b = slices.Concat(b[:at], []byte(pick(rnd, bits...)), b[end:])
			}
		}
		seen[agree(t, b, r)]++
	}
	for _, e := range []api.Errno{api.OK, api.ErrEnd, api.ErrByte, api.ErrInteger, api.ErrRange, api.ErrUTF, api.ErrBackslash, api.ErrDeep, api.ErrMember} {
		if seen[e] < 50 {
			t.Errorf("error %d came %d times alone", e, seen[e])
		}
	}
}

// every goes through all texts of at most so many of the pieces, behind a beginning.
func every(begin string, most int, pieces []string, each func(string)) {
	each(begin)
	if most == 0 {
		return
	}
	for _, p := range pieces {
		every(begin+p, most-1, pieces, each)
	}
}

// Promises 13.2, 13.3 and 13.4: all short texts of a few kinds of pieces, against the second reading.
func TestAllShortTexts(t *testing.T) {
	r := escapes()
	kinds := []struct {
		begin  string
		most   int
		pieces string // parted by blanks
	}{
		{"", 6, "- 0 1 . e + ]"},
		{"[9", 4, "0 5 . E - e1 e18 223372036854775807 223372036854775808 ,"},
		{"", 6, "[ ] { } , : 1"},
		{"{", 6, "\"a\" \"b\" , : } 1"},
		{"\"", 4, "\\ u \\ud83d \\ude00 \\u0041 \\u d8 00 \" x \xff \n"},
		{"[", 4, "n null ul true fals e l ,"},
		{strings.Repeat("[", 14), 5, "[ ] {\"a\": } 1"},
	}
	for _, k := range kinds {
		every(k.begin, k.most, strings.Split(k.pieces, " "), func(s string) { agree(t, []byte(s), r) })
	}
}

// Promises 13.1 and 13.2: which bytes are UTF-8, of all beginnings of two bytes and the edges behind them.
func TestEverySequence(t *testing.T) {
	r := escapes()
	ends := []string{"", "\x80", "\xbf\xbf", "\x80\x80", "\x7f\x80", "\x80\xc0", "\xbf\x80\"", "\""}
	for first := range 256 {
		for next := range 256 {
			if first < 0x80 && next%16 > 0 {
				continue
			}
			for _, end := range ends {
				s := string([]byte{byte(first), byte(next)}) + end
				agree(t, []byte(`"`+s+`"`), r)
				if _, e := cjson.Print(text(s)); (e == api.OK) != utf(s) || e != api.OK && e != api.ErrUTF {
					t.Fatalf("Print of the string %q: %d", s, e)
				}
			}
		}
	}
}

// Promise 13.10: blanks put in ahead, behind, or on either side of a sign outside strings change nothing.
func TestBlanksDoNotMatter(t *testing.T) {
	rnd := rand.New(rand.NewSource(1310))
	for range 20000 {
		v := anyValue(rnd, 5)
		b, _ := cjson.Print(v)
		w, e, at := cjson.Loose(spaced(rnd, b))
		if !same(w, inOrder(v)) || e != api.OK || at != 0 {
			t.Fatalf("Loose of %s with blanks = %v, %d, %d", b, w, e, at)
		}
	}
	for _, s := range []string{" \"a\" ", "\t\"a b\"\n"} {
		if v, e, _ := cjson.Loose([]byte(s)); e != api.OK || v.Text != strings.Trim(s, " \t\n\"") {
			t.Errorf("Loose(%q) = %v, %d", s, v, e)
		}
	}
}

// spaced is a canonical text with blanks put in where they may be.
func spaced(rnd *rand.Rand, b []byte) []byte {
	out := []byte(blanks(rnd))
	within := false
	for i := 0; i < len(b); i++ {
		switch {
		case b[i] == '"':
			within = !within
			out = append(out, '"')
		case within && b[i] == '\\':
			out = append(out, b[i], b[i+1])
			i++
		case !within && strings.IndexByte("[]{},:", b[i]) >= 0:
			out = append(out, blanks(rnd)+string(rune(b[i]))+blanks(rnd)...)
		default:
			out = append(out, b[i])
		}
	}
	return append(out, blanks(rnd)...)
}
