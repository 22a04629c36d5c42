package text

import (
	"strconv"
	"strings"

	"annals/api"
)

const signs = ":,;~!=/@*+()"

func sign(r rune) bool { return strings.ContainsRune(signs, r) }

func blank(r rune) bool { return r == ' ' || r == '\t' }

// parts tells whether a rune of a line, which a # ends, may stand at once behind a name, a number or a literal.
func parts(r rune) bool { return blank(r) || sign(r) }

// Words cuts a line into its words, or tells where it can't be.
func Words(line string) ([]api.Word, api.Errno, int) {
	if len(line) > api.MaxScript {
		return nil, api.ErrLong, api.MaxScript
	}
	var words []api.Word
	end, kind := 0, api.WSign // of the word that was read last; a line begins as if behind a sign, where anything may follow
	for at, r := range line {
		if at < end {
			continue
		}
		if r == '#' {
			break
		}
		if at == end && kind != api.WSign && !parts(r) {
			return nil, odd(line, at, r), at
		}
		if blank(r) {
			continue
		}
		w, place, e := word(line, at, r)
		if e != api.OK {
			return nil, e, place
		}
		words = append(words, w)
		end, kind = place, w.Kind
	}
	return words, api.OK, 0
}

// word reads the word that begins at at with the rune r, and tells where it ends; beside an error, where the fault is.
func word(line string, at int, r rune) (api.Word, int, api.Errno) {
	switch {
	case Letter(r):
		return name(line, at)
	case digit(r) || r == '-':
		return number(line, at)
	case r == '"':
		return literal(line, at)
	case sign(r):
		return api.Word{Kind: api.WSign, At: at, Text: string(r)}, at + 1, api.OK
	}
	return api.Word{}, at, odd(line, at, r)
}

func name(line string, at int) (api.Word, int, api.Errno) {
	end := behind(line, at, nameRune)
	t := line[at:end]
	if e, i := Name(t); e != api.OK {
		return api.Word{}, at + i, e
	}
	return api.Word{Kind: api.WName, At: at, Text: t}, end, api.OK
}

func number(line string, at int) (api.Word, int, api.Errno) {
	from := at
	if line[at] == '-' {
		from++
	}
	end := behind(line, from, digit)
	if end == from {
		return api.Word{}, at, api.ErrRune
	}
	t := line[at:end]
	v, err := strconv.Atoi(t)
	// Written again a number is as it was, unless it had a leading zero or was -0.
	if err != nil || strconv.Itoa(v) != t {
		return api.Word{}, at, api.ErrNumber
	}
	return api.Word{Kind: api.WNumber, At: at, Text: t, Num: v}, end, api.OK
}

func literal(line string, at int) (api.Word, int, api.Errno) {
	t, end, e := Unquote(line, at)
	if e != api.OK {
		return api.Word{}, at, e
	}
	return api.Word{Kind: api.WLiteral, At: at, Text: t}, end, api.OK
}

// behind is the place of the first rune from at on that is none of that class, or the line's end.
func behind(line string, at int, class func(rune) bool) int {
	for i, r := range line[at:] {
		if !class(r) {
			return at + i
		}
	}
	return len(line)
}
