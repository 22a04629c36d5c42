package text_test

import (
	"math"
	"math/rand"
	"strconv"
	"strings"
	"testing"
	"unicode/utf8"

	"annals/api"
	"annals/text"
)

// literals are texts and their literals.
var literals = [][2]string{
	{"", `""`},
	{"a b", `"a b"`},
	{"a\n\"\u00ad\xff", `"a\n\"\u{ad}\xff"`},
	{"\\\t\r", `"\\\t\r"`},
	{"\x00\x01\x08\x0b\x0c\x1f\x7f", `"\x00\x01\x08\x0b\x0c\x1f\x7f"`},
	{" ~", `" ~"`},
	{"\u00e9\u4e2d\U0001f600", "\"\u00e9\u4e2d\U0001f600\""},
	{"\u0080\u009f\u00a0", "\"\\u{80}\\u{9f}\u00a0\""},
	{"\u2028\U000e0001\U000e007f", `"\u{2028}\u{e0001}\u{e007f}"`},
	{"\ufeff\ufffb", `"\u{feff}\u{fffb}"`},
	{"\ufffd", "\"\ufffd\""},
	{"\xef\xbf", `"\xef\xbf"`},
	{"\xe4\xb8", `"\xe4\xb8"`},
	{"\xe4\xb8\u00e9\x80", "\"\\xe4\\xb8\u00e9\\x80\""},
	{"\xed\xa0\x80\xf4\x90\x80\x80", `"\xed\xa0\x80\xf4\x90\x80\x80"`},
	{"\xc2\u00ad", `"\xc2\u{ad}"`},
	{`\x41`, `"\\x41"`},
	{"#:;'`", "\"#:;'`\""},
	{"\U0010ffff", "\"\U0010ffff\""},
}

// Promises 2.5 and 2.6: the chapter's examples, each row of its table, and back; what stands ahead or behind doesn't count.
func TestLiterals(t *testing.T) {
	for _, c := range literals {
		if got := text.Quote(c[0]); got != c[1] {
			t.Errorf("Quote(%q) = %s, not %s", c[0], got, c[1])
		}
		for _, ahead := range []string{"", "x ", "\"", "\xff\u00e9"} {
			for _, behind := range []string{"", "y", "\"", `\`, "\xff"} {
				v, end, e := text.Unquote(ahead+c[1]+behind, len(ahead))
				if v != c[0] || end != len(ahead)+len(c[1]) || e != api.OK {
					t.Errorf("Unquote(%q, %d) = %q, %d, %d", ahead+c[1]+behind, len(ahead), v, end, e)
				}
			}
		}
	}
}

// writing is how the document's table says that a rune is written.
func writing(r rune, hidden map[rune]bool) string {
	short := map[rune]string{'"': `\"`, '\\': `\\`, '\n': `\n`, '\t': `\t`, '\r': `\r`}
	if s := short[r]; s != "" {
		return s
	}
	if r < 16 {
		return `\x0` + strconv.FormatInt(int64(r), 16)
	}
	if r < 32 || r == 127 {
		return `\x` + strconv.FormatInt(int64(r), 16)
	}
	if hidden[r] {
		return `\u{` + strconv.FormatInt(int64(r), 16) + `}`
	}
	return string(r)
}

// Promises 2.5 and 2.6: every rune and every stray byte, and back; a hidden rune or another that must be escaped may not stand itself.
func TestEveryRune(t *testing.T) {
	hidden := members(t, hiddenTable)
	for r := rune(0); r <= utf8.MaxRune; r++ {
		if !utf8.ValidRune(r) {
			continue
		}
		s := string(r)
		want := `"` + writing(r, hidden) + `"`
		if got := text.Quote(s); got != want {
			t.Fatalf("Quote(%x) = %s, not %s", r, got, want)
		}
		if v, end, e := text.Unquote(want, 0); v != s || end != len(want) || e != api.OK {
			t.Fatalf("Unquote(%s) = %q, %d, %d", want, v, end, e)
		}
		raw := `"` + s + `"`
		if raw == want || r == '"' || r == '\\' {
			continue
		}
		if v, end, e := text.Unquote(raw, 0); v != "" || end != 0 || e != api.ErrRaw {
			t.Fatalf("Unquote of the rune %x itself = %q, %d, %d", r, v, end, e)
		}
	}
	for c := 0x80; c < 0x100; c++ {
		s := string([]byte{byte(c)})
		want := `"\x` + strconv.FormatInt(int64(c), 16) + `"`
		if got := text.Quote(s); got != want {
			t.Fatalf("Quote(%q) = %s", s, got)
		}
		if v, end, e := text.Unquote(want, 0); v != s || end != 6 || e != api.OK {
			t.Fatalf("Unquote(%s) = %q, %d, %d", want, v, end, e)
		}
		if v, end, e := text.Unquote(`"`+s+`"`, 0); v != "" || end != 0 || e != api.ErrRaw {
			t.Fatalf("Unquote of the byte %x itself = %q, %d, %d", c, v, end, e)
		}
	}
}

// Promise 2.6: every rune by its number, with and without leading zeros: only hidden ones are so written, without zeros.
func TestEveryNumber(t *testing.T) {
	hidden := members(t, hiddenTable)
	for v := range 0x1000000 {
		if v > 0x110100 && v%977 != 0 {
			continue
		}
		number := strconv.FormatInt(int64(v), 16)
		want := api.ErrCanon
		if !utf8.ValidRune(rune(v)) {
			want = api.ErrEscape
		} else if hidden[rune(v)] {
			want = api.OK
		}
		if _, _, e := text.Unquote(`"\u{`+number+`}"`, 0); e != want {
			t.Fatalf("the number %s: error %d, not %d", number, e, want)
		}
		if want == api.OK && len(number) < 6 {
			if _, _, e := text.Unquote(`"\u{0`+number+`}"`, 0); e != api.ErrCanon {
				t.Fatalf("the number 0%s: error %d", number, e)
			}
		}
	}
}

// Promise 2.6: what is refused, and for what.
func TestUnquoteRefuses(t *testing.T) {
	rows := []struct {
		s  string
		at int
		e  api.Errno
	}{
		{`"a"`, -1, api.ErrArg},
		{`"a"`, 4, api.ErrArg},
		{`"a"`, math.MinInt, api.ErrArg},
		{`"a"`, math.MaxInt, api.ErrArg},
		{"", 1, api.ErrArg},
		{"", 0, api.ErrQuote},
		{`"a"`, 3, api.ErrQuote},
		{`"a"`, 1, api.ErrQuote},
		{`'a'`, 0, api.ErrQuote},
		{"\xff", 0, api.ErrQuote},
		{`"`, 0, api.ErrOpen},
		{`"a"`, 2, api.ErrOpen},
		{`"ab`, 0, api.ErrOpen},
		{`"a\"`, 0, api.ErrOpen},
		{`"a\\\"`, 0, api.ErrOpen},
		{`"\u{ad}`, 0, api.ErrOpen},
		{`"\x41`, 0, api.ErrOpen},
		{"\"a\n\"", 0, api.ErrRaw},
		{"\"\t\"", 0, api.ErrRaw},
		{"\"\x7f\"", 0, api.ErrRaw},
		{"\"\xff\"", 0, api.ErrRaw},
		{"\"\xef\xbf\"", 0, api.ErrRaw},
		{"\"\u00ad\"", 0, api.ErrRaw},
		{`"\`, 0, api.ErrEscape},
		{`"a\`, 0, api.ErrEscape},
		{`"\q"`, 0, api.ErrEscape},
		{`"\N"`, 0, api.ErrEscape},
		{`"\a"`, 0, api.ErrEscape},
		{`"\0"`, 0, api.ErrEscape},
		{`"\ "`, 0, api.ErrEscape},
		{"\"\\\xff\"", 0, api.ErrEscape},
		{"\"\\\n\"", 0, api.ErrEscape},
		{"\"\\\u00ad\"", 0, api.ErrEscape},
		{`"\x`, 0, api.ErrEscape},
		{`"\x4`, 0, api.ErrEscape},
		{`"\x"`, 0, api.ErrEscape},
		{`"\x4"`, 0, api.ErrEscape},
		{`"\xC3"`, 0, api.ErrEscape},
		{`"\xcG"`, 0, api.ErrEscape},
		{`"\xg1"`, 0, api.ErrEscape},
		{`"\X41"`, 0, api.ErrEscape},
		{"\"\\x\xff1\"", 0, api.ErrEscape},
		{`"\u`, 0, api.ErrEscape},
		{`"\u{`, 0, api.ErrEscape},
		{`"\u{ad`, 0, api.ErrEscape},
		{`"\u{00ad00`, 0, api.ErrEscape},
		{`"\u{ad"`, 0, api.ErrEscape},
		{`"\u{}"`, 0, api.ErrEscape},
		{`"\u{g}"`, 0, api.ErrEscape},
		{`"\u{AD}"`, 0, api.ErrEscape},
		{`"\u{-1}"`, 0, api.ErrEscape},
		{"\"\\u{\xff}\"", 0, api.ErrEscape},
		{"\"\\u{\u0661}\"", 0, api.ErrEscape},
		{`"\u00ad"`, 0, api.ErrEscape},
		{`"\U{ad}"`, 0, api.ErrEscape},
		{`"\u{d7ff}"`, 0, api.ErrCanon},
		{`"\u{d800}"`, 0, api.ErrEscape},
		{`"\u{dfff}"`, 0, api.ErrEscape},
		{`"\u{e000}"`, 0, api.ErrCanon},
		{`"\u{10ffff}"`, 0, api.ErrCanon},
		{`"\u{110000}"`, 0, api.ErrEscape},
		{`"\u{ffffff}"`, 0, api.ErrEscape},
		{`"\u{0000ad}"`, 0, api.ErrCanon},
		{`"\u{00000ad}"`, 0, api.ErrEscape},
		{`"\u{1000000ad}"`, 0, api.ErrEscape},
		{`"\u{0}"`, 0, api.ErrCanon},
		{`"\x41"`, 0, api.ErrCanon},
		{`"\x22"`, 0, api.ErrCanon},
		{`"\x5c"`, 0, api.ErrCanon},
		{`"\x0a"`, 0, api.ErrCanon},
		{`"\x09"`, 0, api.ErrCanon},
		{`"\x0d"`, 0, api.ErrCanon},
		{`"\x20"`, 0, api.ErrCanon},
		{`"\u{41}"`, 0, api.ErrCanon},
		{`"\u{7f}"`, 0, api.ErrCanon},
		{`"\u{a}"`, 0, api.ErrCanon},
		{`"\u{0ad}"`, 0, api.ErrCanon},
		{`"\u{fffd}"`, 0, api.ErrCanon},
		{`"\xc3\xa9"`, 0, api.ErrCanon},
		{`"\xc2\xad"`, 0, api.ErrCanon},
		{`"\xef\xbf\xbd"`, 0, api.ErrCanon},
		{`"\xf0\x9f\x98\x80"`, 0, api.ErrCanon},
		{`"a\xc3\xa9b"`, 0, api.ErrCanon},
		// The first place decides, and all three come ahead of ErrCanon.
		{`"\x41\q"`, 0, api.ErrEscape},
		{"\"\\x41\n\"", 0, api.ErrRaw},
		{"\"\\q\n", 0, api.ErrEscape},
		{"\"\n\\q", 0, api.ErrRaw},
		{"\"\u00ad", 0, api.ErrRaw},
		// What stands behind the closing quote is not looked at.
		{"\"\\x41\"\n\\q", 0, api.ErrCanon},
	}
	for _, c := range rows {
		if v, end, e := text.Unquote(c.s, c.at); v != "" || end != 0 || e != c.e {
			t.Errorf("Unquote(%q, %d) = %q, %d, %d, not error %d", c.s, c.at, v, end, e, c.e)
		}
	}
}

// Promises 2.5 and 2.6: random texts, and back.
func TestLiteralsOfAll(t *testing.T) {
	r := rand.New(rand.NewSource(4))
	for range 20000 {
		s := randomText(r, 8)
		q := text.Quote(s)
		if v, end, e := text.Unquote("ab"+q+"c", 2); v != s || end != 2+len(q) || e != api.OK {
			t.Fatalf("Unquote(%s) = %q, %d, %d", q, v, end, e)
		}
	}
}

// Promise 2.6: whatever is accepted is the literal of its text; cut short it is none.
func TestOneLiteralAlone(t *testing.T) {
	r := rand.New(rand.NewSource(5))
	bits := append([]string{`\"`, `\\`, `\n`, `\x`, `\u{`, `41`, `ad`, `c3`, `a9`, `}`, `\x7f`, `\xc3`, `\xa9`, `\u{200b}`}, pieces...)
	good := 0
	for range 60000 {
		var b strings.Builder
		for range r.Intn(6) {
			b.WriteString(bits[r.Intn(len(bits))])
		}
		s := `"` + b.String() + `"`
		v, end, e := text.Unquote(s, 0)
		if e != api.OK {
			continue
		}
		good++
		if text.Quote(v) != s[:end] {
			t.Fatalf("Unquote(%q) = %q, %d", s, v, end)
		}
		for cut := range end {
			if _, _, e := text.Unquote(s[:cut], 0); e == api.OK {
				t.Fatalf("Unquote(%q) is accepted", s[:cut])
			}
		}
	}
	if good < 1000 {
		t.Fatalf("only %d literals were accepted", good)
	}
}
