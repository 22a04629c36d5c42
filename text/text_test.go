package text_test

import (
	"math"
	"math/rand"
	"strconv"
	"strings"
	"testing"
	"unicode/utf8"

	"annals/api"
	"annals/text"
)

// The calls, with the signatures that the chapter lists.
var (
	_ func(string) int                           = text.Valid
	_ func(rune) bool                            = text.Letter
	_ func(string) (api.Errno, int)              = text.Name
	_ func(string, int) string                   = text.Clip
	_ func(string) string                        = text.Quote
	_ func(string, int) (string, int, api.Errno) = text.Unquote
	_ func(string) ([]api.Word, api.Errno, int)  = text.Words
)

// letterTable is the document's table, as it stands there.
const letterTable = `
41 5A 61 7A C0 D6 D8 F6
F8 17F 391 3A1 3A3 3A9 3AC 3CE
400 45F 531 556 5D0 5EA 621 63A
641 64A 904 939 E01 E30 10D0 10FA
3041 3096 30A1 30FA 4E00 9FFF AC00 D7A3
10400 1044F 20000 2A6DF`

// hiddenTable is the document's list of hidden runes.
const hiddenTable = `80 9F AD AD 200B 200F 2028 202E 2060 2064 FEFF FEFF FFF9 FFFB E0001 E007F`

// members are all runes of a table.
func members(t *testing.T, table string) map[rune]bool {
	t.Helper()
	words := strings.Fields(table)
	out := map[rune]bool{}
	for i := 0; i < len(words); i += 2 {
		from, e1 := strconv.ParseInt(words[i], 16, 32)
		to, e2 := strconv.ParseInt(words[i+1], 16, 32)
		if e1 != nil || e2 != nil || from > to {
			t.Fatalf("no rows: %s %s", words[i], words[i+1])
		}
		for r := from; r <= to; r++ {
			out[rune(r)] = true
		}
	}
	return out
}

// pieces are what random texts are put together of: runes of all widths and classes, and all kinds of stray bytes.
var pieces = []string{
	"a", "Z", "0", "9", "-", "_", ".", " ", "\t", "\n", "\r", "\x00", "\x1f", "\x7f", "\"", "\\", "#", ":", "(", "x", "u", "{", "}",
	"\u00e9", "\u00d7", "\u4e2d", "\U00010400", "\ufffd", "\u0080", "\u00ad", "\u200b", "\ufeff", "\U000e0001", "\U0010ffff",
	"\x80", "\xbf", "\xc0", "\xc3", "\xe4", "\xe4\xb8", "\xef", "\xef\xbf", "\xf0\x90", "\xf4\x90\x80\x80", "\xed\xa0\x80", "\xff",
}

func randomText(r *rand.Rand, most int) string {
	var b strings.Builder
	for range r.Intn(most + 1) {
		b.WriteString(pieces[r.Intn(len(pieces))])
	}
	return b.String()
}

// Promise 2.1: the place of the first stray byte, or -1.
func TestValid(t *testing.T) {
	rows := []struct {
		s    string
		want int
	}{
		{"", -1},
		{"abc", -1},
		{"\x00\x7f", -1},
		{"a\xc3", 1},
		{"a\xc3(", 1},
		{"\u00e9\u4e2d\U00010400", -1},
		{"\u00e9\x80", 2},
		{"\u4e2d\xff\xfe", 3},
		// The rune FFFD itself is no stray byte; one of its bytes alone is.
		{"\ufffd", -1},
		{"\ufffd\xff", 3},
		{"\xff\ufffd", 0},
		{"\xef", 0},
		{"\xef\xbf", 0},
		{"a\xef\xbf\xbc\xef\xbf", 4},
		{"\xbd", 0},
		// Longer than need be.
		{"\xc0\x80", 0},
		{"\xc1\xbf", 0},
		{"\xe0\x9f\xbf", 0},
		{"\xf0\x8f\xbf\xbf", 0},
		// The edges of the surrogates and of all runes.
		{"\xed\x9f\xbf", -1},
		{"\xed\xa0\x80", 0},
		{"\xed\xbf\xbf", 0},
		{"\xee\x80\x80", -1},
		{"\xf4\x8f\xbf\xbf", -1},
		{"\xf4\x90\x80\x80", 0},
		{"\xf5\x80\x80\x80", 0},
	}
	for _, c := range rows {
		if got := text.Valid(c.s); got != c.want {
			t.Errorf("Valid(%q) = %d, not %d", c.s, got, c.want)
		}
	}
}

// Promise 2.1: each byte by itself, and random texts held against a reading step by step.
func TestValidOfAll(t *testing.T) {
	for c := range 256 {
		want := 0
		if c < 0x80 {
			want = -1
		}
		if got := text.Valid(string([]byte{byte(c)})); got != want {
			t.Fatalf("the byte %x alone: %d", c, got)
		}
	}
	r := rand.New(rand.NewSource(1))
	for range 20000 {
		s := randomText(r, 6)
		want := -1
		for i := 0; i < len(s); {
			v, n := utf8.DecodeRuneInString(s[i:])
			if v == utf8.RuneError && n == 1 {
				want = i
				break
			}
			i += n
		}
		if got := text.Valid(s); got != want {
			t.Fatalf("Valid(%q) = %d, not %d", s, got, want)
		}
	}
}

// Promise 2.2: the letters are those of the table, of all numbers that there are.
func TestLetter(t *testing.T) {
	letters := members(t, letterTable)
	for r := rune(-1000); r <= 0x111000; r++ {
		if got := text.Letter(r); got != letters[r] {
			t.Fatalf("Letter(%x) = %v", r, got)
		}
	}
	for _, r := range []rune{math.MinInt32, math.MinInt32 + 'a', math.MaxInt32, 1<<24 | 'a'} {
		if text.Letter(r) {
			t.Fatalf("%x is no letter", r)
		}
	}
}

// Promise 2.3: the chapter's examples, the edges, and the place of each fault.
func TestName(t *testing.T) {
	full := strings.Repeat("\u00e9", 48)
	rows := []struct {
		s  string
		e  api.Errno
		at int
	}{
		{"a", api.OK, 0},
		{"b\u00fccher-2", api.OK, 0},
		{"a0-_.z", api.OK, 0},
		{"\U00020000\u4e2d", api.OK, 0},
		{full, api.OK, 0},
		{strings.Repeat("a", 48), api.OK, 0},
		{"", api.ErrNameEmpty, 0},
		{"2b", api.ErrRune, 0},
		{"-a", api.ErrRune, 0},
		{"_a", api.ErrRune, 0},
		{".a", api.ErrRune, 0},
		{" ", api.ErrRune, 0},
		{"a b", api.ErrRune, 1},
		{"\u00e9:", api.ErrRune, 2},
		{"a/", api.ErrRune, 1},
		{"a,", api.ErrRune, 1},
		{"a\u00d7", api.ErrRune, 1},
		{"a\u0660", api.ErrRune, 1},
		{"\ufffd", api.ErrRune, 0},
		{"a\ufffd", api.ErrRune, 1},
		{"a\xff", api.ErrUTF8, 1},
		{"\xffa b", api.ErrUTF8, 0},
		{"a \xff", api.ErrRune, 1},
		{"a\xff ", api.ErrUTF8, 1},
		{"\u4e2d\xe4\xb8", api.ErrUTF8, 3},
		{full + "a", api.ErrNameLong, 96},
		{full + "\xff", api.ErrNameLong, 96},
		{full + " ", api.ErrNameLong, 96},
		{full + "aa", api.ErrNameLong, 96},
		{full[:94] + " a", api.ErrRune, 94},
		{full[:94] + "\xff" + "a", api.ErrUTF8, 94},
		{full[:94] + "a" + "\xff", api.ErrNameLong, 95},
		{" " + full + "a", api.ErrRune, 0},
	}
	for _, c := range rows {
		if e, at := text.Name(c.s); e != c.e || at != c.at {
			t.Errorf("Name(%q) = %d, %d, not %d, %d", c.s, e, at, c.e, c.at)
		}
	}
}

// Promise 2.3: which runes may stand first, and which behind.
func TestNameRunes(t *testing.T) {
	letters := members(t, letterTable)
	for r := rune(0); r <= utf8.MaxRune; r++ {
		if !utf8.ValidRune(r) {
			continue
		}
		first, later := api.ErrRune, api.ErrRune
		if letters[r] {
			first, later = api.OK, api.OK
		} else if strings.ContainsRune("0123456789-_.", r) {
			later = api.OK
		}
		if e, at := text.Name(string(r)); e != first || at != 0 {
			t.Fatalf("%x as a name: %d, %d", r, e, at)
		}
		e, at := text.Name("a" + string(r))
		if e != later || at != 0 && e == api.OK || at != 1 && e != api.OK {
			t.Fatalf("%x within a name: %d, %d", r, e, at)
		}
	}
}

// Promise 2.4: the chapter's example, the edges, and numbers of runes that may not be.
func TestClip(t *testing.T) {
	s := "\u00e9\xff\u4e2d\ufffd\xe4\xb8"
	for n, want := range []string{"", "\u00e9", "\u00e9\xff", "\u00e9\xff\u4e2d", "\u00e9\xff\u4e2d\ufffd", "\u00e9\xff\u4e2d\ufffd\xe4", s, s} {
		if got := text.Clip(s, n); got != want {
			t.Errorf("Clip(%q, %d) = %q", s, n, got)
		}
	}
	for _, n := range []int{-1, math.MinInt} {
		if got := text.Clip(s, n); got != "" {
			t.Errorf("Clip(%q, %d) = %q", s, n, got)
		}
	}
	if got := text.Clip(s, math.MaxInt); got != s {
		t.Errorf("Clip(%q, MaxInt) = %q", s, got)
	}
	for _, n := range []int{math.MinInt, -1, 0, 1, math.MaxInt} {
		if got := text.Clip("", n); got != "" {
			t.Errorf("Clip of nothing = %q", got)
		}
	}
}

// Promise 2.4: of random texts it is a prefix of n runes, cut behind whole runes.
func TestClipOfAll(t *testing.T) {
	r := rand.New(rand.NewSource(2))
	for range 5000 {
		s := randomText(r, 8)
		all := utf8.RuneCountInString(s)
		for n := range all + 2 {
			got := text.Clip(s, n)
			if !strings.HasPrefix(s, got) || utf8.RuneCountInString(got) != min(n, all) {
				t.Fatalf("Clip(%q, %d) = %q", s, n, got)
			}
			if utf8.RuneCountInString(got)+utf8.RuneCountInString(s[len(got):]) != all {
				t.Fatalf("Clip(%q, %d) = %q cuts an encoding in two", s, n, got)
			}
		}
	}
}

// No call panics or runs on, whatever it is given.
func TestAnythingIsTaken(t *testing.T) {
	r := rand.New(rand.NewSource(3))
	places := []int{math.MinInt, -1, 0, 1, 2, 7, math.MaxInt - 1, math.MaxInt}
	for range 20000 {
		s := randomText(r, 8)
		text.Valid(s)
		text.Name(s)
		text.Quote(s)
		text.Words(s)
		for _, at := range append(places, len(s), len(s)+1) {
			text.Clip(s, at)
			text.Unquote(s, at)
			text.Unquote(`"`+s, at)
		}
	}
	great := strings.Repeat("\xff", 1<<20)
	if v, end, e := text.Unquote(text.Quote(great), 0); v != great || end != 4<<20+2 || e != api.OK {
		t.Errorf("a great literal: %d bytes, %d, %d", len(v), end, e)
	}
	if e, at := text.Name(great); e != api.ErrUTF8 || at != 0 {
		t.Errorf("a great name: %d, %d", e, at)
	}
}
