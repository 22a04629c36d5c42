package text_test

import (
	"math"
	"math/rand"
	"slices"
	"strconv"
	"strings"
	"testing"
	"unicode/utf8"

	"annals/api"
	"annals/text"
)

func nameWord(at int, s string) api.Word { return api.Word{Kind: 1, At: at, Text: s} }

func numberWord(at int, s string, v int) api.Word {
	return api.Word{Kind: 2, At: at, Text: s, Num: v}
}

func literalWord(at int, s string) api.Word { return api.Word{Kind: 3, At: at, Text: s} }

func signWord(at int, s string) api.Word { return api.Word{Kind: 4, At: at, Text: s} }

// Promise 2.7: the words of lines that have nothing wrong.
func TestWords(t *testing.T) {
	long := strings.Repeat("\u00e9", 48)
	rows := []struct {
		line string
		want []api.Word
	}{
		{"", nil},
		{" \t ", nil},
		{"#", nil},
		{"# x \xff \"", nil},
		{" #", nil},
		{"begin 7 order, \"x y\" # all", []api.Word{nameWord(0, "begin"), numberWord(6, "7", 7), nameWord(8, "order"), signWord(13, ","), literalWord(15, "x y")}},
		{"a\tb", []api.Word{nameWord(0, "a"), nameWord(2, "b")}},
		{"a-1_2.b\u4e2d", []api.Word{nameWord(0, "a-1_2.b\u4e2d")}},
		{"\u00e9\u00e9 1", []api.Word{nameWord(0, "\u00e9\u00e9"), numberWord(5, "1", 1)}},
		{long, []api.Word{nameWord(0, long)}},
		{long + "(" + long, []api.Word{nameWord(0, long), signWord(96, "("), nameWord(97, long)}},
		{"a#b", []api.Word{nameWord(0, "a")}},
		{"1#\n", []api.Word{numberWord(0, "1", 1)}},
		{"\"a\"#\xff", []api.Word{literalWord(0, "a")}},
		{":#", []api.Word{signWord(0, ":")}},
		{"\"a#b\" \"\"", []api.Word{literalWord(0, "a#b"), literalWord(6, "")}},
		{`"\n\u{ad}\xff"`, []api.Word{literalWord(0, "\n\u00ad\xff")}},
		{"0 -1 10", []api.Word{numberWord(0, "0", 0), numberWord(2, "-1", -1), numberWord(5, "10", 10)}},
		{"9223372036854775807", []api.Word{numberWord(0, "9223372036854775807", math.MaxInt)}},
		{"-9223372036854775808", []api.Word{numberWord(0, "-9223372036854775808", math.MinInt)}},
		{"a=-5;b", []api.Word{nameWord(0, "a"), signWord(1, "="), numberWord(2, "-5", -5), signWord(4, ";"), nameWord(5, "b")}},
		{"1+2", []api.Word{numberWord(0, "1", 1), signWord(1, "+"), numberWord(2, "2", 2)}},
		{`("x")`, []api.Word{signWord(0, "("), literalWord(1, "x"), signWord(4, ")")}},
		{`="x"~`, []api.Word{signWord(0, "="), literalWord(1, "x"), signWord(4, "~")}},
		{"::", []api.Word{signWord(0, ":"), signWord(1, ":")}},
	}
	for _, c := range rows {
		l, e, at := text.Words(c.line)
		if !slices.Equal(l, c.want) || e != api.OK || at != 0 {
			t.Errorf("Words(%q) = %v, %d, %d, not %v", c.line, l, e, at, c.want)
		}
	}
}

// Promise 2.7: each sign by itself, at once behind and ahead of every other kind of word.
func TestSigns(t *testing.T) {
	for _, r := range ":,;~!=/@*+()" {
		s := string(r)
		want := []api.Word{signWord(0, s), nameWord(1, "a"), signWord(2, s), numberWord(3, "7", 7), signWord(4, s), literalWord(5, "x"), signWord(8, s), signWord(9, s)}
		if l, e, at := text.Words(s + "a" + s + "7" + s + `"x"` + s + s); !slices.Equal(l, want) || e != api.OK || at != 0 {
			t.Errorf("%s: %v, %d, %d", s, l, e, at)
		}
	}
}

// Promise 2.7: what may begin a word, and what may follow one, of every rune there is.
func TestEveryRuneInALine(t *testing.T) {
	letters := members(t, letterTable)
	for r := rune(0); r <= utf8.MaxRune; r++ {
		if !utf8.ValidRune(r) {
			continue
		}
		s := string(r)
		free := strings.ContainsRune(":,;~!=/@*+() \t#", r)
		digit := '0' <= r && r <= '9'
		alone, behind := api.ErrRune, api.ErrRune
		if free || letters[r] || digit {
			alone = api.OK
		} else if r == '"' {
			alone = api.ErrOpen
		}
		if free {
			behind = api.OK
		}
		if _, e, at := text.Words(" " + s); e != alone || e != api.OK && at != 1 {
			t.Fatalf("%x alone: %d, %d", r, e, at)
		}
		if _, e, at := text.Words(`"x"` + s); e != behind || e != api.OK && at != 3 {
			t.Fatalf("%x behind a literal: %d, %d", r, e, at)
		}
		if _, e, at := text.Words("7" + s); !digit && (e != behind || e != api.OK && at != 1) {
			t.Fatalf("%x behind a number: %d, %d", r, e, at)
		}
		named := letters[r] || digit || r == '-' || r == '_' || r == '.'
		if _, e, at := text.Words("a" + s); !named && (e != behind || e != api.OK && at != 1) || named && e != api.OK {
			t.Fatalf("%x behind a name: %d, %d", r, e, at)
		}
	}
}

// Promise 2.7: what is wrong with a line, and where.
func TestWordsRefuses(t *testing.T) {
	long := strings.Repeat("\u00e9", 48)
	rows := []struct {
		line string
		e    api.Errno
		at   int
	}{
		// Literals: Unquote's error, at the opening quote.
		{`a "b`, api.ErrOpen, 2},
		{`a "\q"`, api.ErrEscape, 2},
		{`"\x41"`, api.ErrCanon, 0},
		{"x:\"\xff\"", api.ErrRaw, 2},
		{`"ab" "cd`, api.ErrOpen, 5},
		{`"a#`, api.ErrOpen, 0},
		{`"\x41"b`, api.ErrCanon, 0},
		// Numbers.
		{"a 01", api.ErrNumber, 2},
		{"00", api.ErrNumber, 0},
		{"-0", api.ErrNumber, 0},
		{"-01", api.ErrNumber, 0},
		{"a=-00", api.ErrNumber, 2},
		{"9223372036854775808", api.ErrNumber, 0},
		{" -9223372036854775809", api.ErrNumber, 1},
		{"18446744073709551617", api.ErrNumber, 0},
		{strings.Repeat("9", 65536), api.ErrNumber, 0},
		{"01x", api.ErrNumber, 0},
		{"-0\xff", api.ErrNumber, 0},
		// Names.
		{long + "a", api.ErrNameLong, 96},
		{"7 " + long + "-", api.ErrNameLong, 98},
		{long + "aaa\"", api.ErrNameLong, 96},
		{long + "\"", api.ErrRune, 96},
		{long + "\xff", api.ErrUTF8, 96},
		// At once behind a word.
		{"7up", api.ErrRune, 1},
		{"7_", api.ErrRune, 1},
		{"7.5", api.ErrRune, 1},
		{"7-0", api.ErrRune, 1},
		{"7-", api.ErrRune, 1},
		{"1-2", api.ErrRune, 1},
		{"-1-2", api.ErrRune, 2},
		{`7"a"`, api.ErrRune, 1},
		{`7"`, api.ErrRune, 1},
		{`ab"`, api.ErrRune, 2},
		{`ab"c"`, api.ErrRune, 2},
		{`ab"\x41"`, api.ErrRune, 2},
		{`"a"b`, api.ErrRune, 3},
		{`"a"7`, api.ErrRune, 3},
		{`"a"-1`, api.ErrRune, 3},
		{`"a"01`, api.ErrRune, 3},
		{`"a"""`, api.ErrRune, 3},
		{`"a""`, api.ErrRune, 3},
		{"\"a\"\xff", api.ErrUTF8, 3},
		{"7\xff", api.ErrUTF8, 1},
		{"a\xff", api.ErrUTF8, 1},
		{"a?", api.ErrRune, 1},
		{"a\nb", api.ErrRune, 1},
		{"a\ufffd", api.ErrRune, 1},
		// Elsewhere.
		{"a -b", api.ErrRune, 2},
		{"-", api.ErrRune, 0},
		{"--1", api.ErrRune, 0},
		{"- 1", api.ErrRune, 0},
		{"-#", api.ErrRune, 0},
		{"(-)", api.ErrRune, 1},
		{"_a", api.ErrRune, 0},
		{".", api.ErrRune, 0},
		{"\n", api.ErrRune, 0},
		{"\r", api.ErrRune, 0},
		{" \u00a0", api.ErrRune, 1},
		{"\u00ad", api.ErrRune, 0},
		{"\ufffd", api.ErrRune, 0},
		{"a \xff", api.ErrUTF8, 2},
		{"a,\xe4\xb8", api.ErrUTF8, 2},
		{"'a'", api.ErrRune, 0},
		{"a <", api.ErrRune, 2},
		{"\\", api.ErrRune, 0},
		{"-\u0661", api.ErrRune, 0},
		// The first fault from the left.
		{"a \xff 01", api.ErrUTF8, 2},
		{"01 \xff", api.ErrNumber, 0},
		{`? "`, api.ErrRune, 0},
	}
	for _, c := range rows {
		l, e, at := text.Words(c.line)
		if e != c.e || at != c.at || len(l) != 0 {
			t.Errorf("Words(%.60q) = %v, %d, %d, not %d, %d", c.line, l, e, at, c.e, c.at)
		}
	}
}

// Promise 2.7: the length of a line has a bound, ahead of all else and whatever stands in it.
func TestLongLines(t *testing.T) {
	for _, s := range []string{" ", "#", ":", "\xff", "\""} {
		if l, e, at := text.Words(strings.Repeat(s, api.MaxScript+1)); len(l) != 0 || e != api.ErrLong || at != api.MaxScript {
			t.Errorf("a line of too many %q: %d words, %d, %d", s, len(l), e, at)
		}
		if _, e, _ := text.Words(strings.Repeat(s, api.MaxScript)); e == api.ErrLong {
			t.Errorf("a line of %q that is not too long is refused", s)
		}
	}
	if l, e, at := text.Words(strings.Repeat(":", api.MaxScript)); len(l) != api.MaxScript || e != api.OK || at != 0 {
		t.Errorf("a line full of signs: %d words, %d, %d", len(l), e, at)
	}
	whole := strings.Repeat("x", api.MaxScript-2)
	if l, e, at := text.Words(`"` + whole + `"`); e != api.OK || at != 0 || !slices.Equal(l, []api.Word{literalWord(0, whole)}) {
		t.Errorf("a line of one literal: %d, %d", e, at)
	}
}

// slow reads a line as the document tells it, one place after the other and without what the program has for it.
func slow(line string, letters map[rune]bool) ([]api.Word, api.Errno, int) {
	var out []api.Word
	free := true
	for at := 0; at < len(line); {
		r, n := utf8.DecodeRuneInString(line[at:])
		c := line[at]
		named := func(r rune) bool { return letters[r] || strings.ContainsRune("0123456789-_.", r) }
		wrong := api.ErrRune
		if r == utf8.RuneError && n == 1 {
			wrong = api.ErrUTF8
		}
		switch {
		case c == '#':
			return out, api.OK, 0
		case c == ' ' || c == '\t':
			at++
			free = true
		case strings.IndexByte(":,;~!=/@*+()", c) >= 0:
			out = append(out, signWord(at, line[at:at+1]))
			at++
			free = true
		case !free:
			return nil, wrong, at
		case letters[r]:
			t := line[at : at+len(line[at:])-len(strings.TrimLeftFunc(line[at:], named))]
			if utf8.RuneCountInString(t) > 48 {
				return nil, api.ErrNameLong, at + len(string([]rune(t)[:48]))
			}
			out = append(out, nameWord(at, t))
			at += len(t)
			free = false
		case c == '"':
			v, end, e := text.Unquote(line, at)
			if e != api.OK {
				return nil, e, at
			}
			out = append(out, literalWord(at, v))
			at = end
			free = false
		case '0' <= c && c <= '9' || c == '-' && len(strings.TrimLeft(line[at+1:], "0123456789")) < len(line)-at-1:
			t := line[at : len(line)-len(strings.TrimLeft(line[at+1:], "0123456789"))]
			v, err := strconv.ParseInt(t, 10, 64)
			if err != nil || strings.HasPrefix(strings.TrimPrefix(t, "-"), "0") && t != "0" {
				return nil, api.ErrNumber, at
			}
			out = append(out, numberWord(at, t, int(v)))
			at += len(t)
			free = false
		default:
			return nil, wrong, at
		}
	}
	return out, api.OK, 0
}

// Promise 2.7: random lines, held against the slow reading.
func TestWordsOfAll(t *testing.T) {
	letters := members(t, letterTable)
	good := []string{`"a"`, `"\n"`, `""`, "order", "12", "-3", "9223372036854775807", " ", " ", " ", "\t", "=", ",", "\u4e2d\u00e9", strings.Repeat("b", 47)}
	bad := append([]string{`"\q"`, "-0", "007", "9223372036854775808"}, pieces...)
	r := rand.New(rand.NewSource(6))
	several := 0
	for range 100000 {
		var b strings.Builder
		for range r.Intn(8) {
			bits := good
			if r.Intn(4) == 0 {
				bits = bad
			}
			b.WriteString(bits[r.Intn(len(bits))])
		}
		line := b.String()
		want, we, wat := slow(line, letters)
		l, e, at := text.Words(line)
		if !slices.Equal(l, want) || e != we || at != wat {
			t.Fatalf("Words(%q) = %v, %d, %d, not %v, %d, %d", line, l, e, at, want, we, wat)
		}
		if e == api.OK && len(l) > 1 {
			several++
		}
	}
	if several < 5000 {
		t.Fatalf("only %d lines had several words", several)
	}
}

// Nothing is kept from call to call: whoever writes into an answer, behind its end too, changes no other one.
func TestAnswersAreNew(t *testing.T) {
	line := `a 1 "x" : b 2 "y"`
	first, _, _ := text.Words(line)
	was := slices.Clone(first)
	second, _, _ := text.Words(line)
	for i := range first[:cap(first)] {
		first[:cap(first)][i] = api.Word{Kind: 9, Text: "z"}
	}
	third, _, _ := text.Words(line)
	if !slices.Equal(second, was) || !slices.Equal(third, was) {
		t.Error("writing into an answer changes another")
	}
	for _, w := range third[len(third):cap(third)] {
		if w != (api.Word{}) {
			t.Errorf("there is %v in the spare room", w)
		}
	}
}
