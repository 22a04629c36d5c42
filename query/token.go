package query

import (
	"strings"

	"annals/api"
	"annals/text"
)

const (
	blanks   = " \t\n\r"
	signLike = "(),=!<>" // with which signs begin
)

func digit(r rune) bool { return '0' <= r && r <= '9' }

func nameRune(r rune) bool { return text.Letter(r) || digit(r) || strings.ContainsRune("-_.", r) }

func blank(r rune) bool { return strings.ContainsRune(blanks, r) }

// parting tells whether a rune may stand at once behind a name, an integer or a literal.
func parting(r rune) bool { return blank(r) || strings.ContainsRune(signLike, r) }

// tokens cuts a query's text into its tokens, or tells where it can't be.
func tokens(query string) ([]api.Word, api.Errno, int) {
	var out []api.Word
	end, kind := 0, api.WSign // of the token that was read last; a text begins as if behind a sign, where anything may follow
	for at, r := range query {
		if at < end {
			continue
		}
		if at == end && kind != api.WSign && !parting(r) {
			return nil, api.ErrToken, at
		}
		if blank(r) {
			continue
		}
		w, place, e := token(query, at, r)
		if e != api.OK {
			return nil, e, place
		}
		out = append(out, w)
		end, kind = place, w.Kind
	}
	return out, api.OK, 0
}

// token reads the token that begins at at with the rune r, and tells where it ends; beside an error, where the fault is.
func token(query string, at int, r rune) (api.Word, int, api.Errno) {
	switch {
	case text.Letter(r):
		return name(query, at)
	case digit(r) || r == '-':
		return integer(query, at)
	case r == '"':
		return literal(query, at)
	}
	return sign(query, at)
}

func name(query string, at int) (api.Word, int, api.Errno) {
	end := behind(query, at, nameRune)
	t := query[at:end]
	if e, i := text.Name(t); e != api.OK {
		return api.Word{}, at + i, e
	}
	return api.Word{Kind: api.WName, At: at, Text: t}, end, api.OK
}

func integer(query string, at int) (api.Word, int, api.Errno) {
	end := behind(query, at+1, digit)
	t := query[at:end]
	if t == "-" {
		return api.Word{}, at, api.ErrToken
	}
	words, e, _ := text.Words(t) // so an integer is here what it is in a line
	if e != api.OK {
		return api.Word{}, at, e
	}
	return api.Word{Kind: api.WNumber, At: at, Text: t, Num: words[0].Num}, end, api.OK
}

func literal(query string, at int) (api.Word, int, api.Errno) {
	t, end, e := text.Unquote(query, at)
	if e != api.OK {
		return api.Word{}, at, e
	}
	return api.Word{Kind: api.WLiteral, At: at, Text: t}, end, api.OK
}

// sign reads the longest sign that stands at at.
func sign(query string, at int) (api.Word, int, api.Errno) {
	longest := ""
	for _, s := range [...]string{"(", ")", ",", "=", "!=", "<", "<=", ">", ">="} {
		if len(s) > len(longest) && strings.HasPrefix(query[at:], s) {
			longest = s
		}
	}
	if longest == "" {
		return api.Word{}, at, api.ErrToken
	}
	return api.Word{Kind: api.WSign, At: at, Text: longest}, at + len(longest), api.OK
}

// behind is the place of the first rune from at on that is none of that class, or the text's end.
func behind(query string, at int, class func(rune) bool) int {
	for i, r := range query[at:] {
		if !class(r) {
			return at + i
		}
	}
	return len(query)
}
