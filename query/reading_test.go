package query_test

import (
	"math/big"
	"regexp"
	"slices"
	"strings"

	"annals/api"
	"annals/text"
)

// The forms of tokens. The letters are chapter 2's.
const letterClass = `A-Za-zÀ-ÖØ-öø-ſ\x{391}-\x{3A1}\x{3A3}-\x{3A9}\x{3AC}-\x{3CE}\x{400}-\x{45F}\x{531}-\x{556}\x{5D0}-\x{5EA}\x{621}-\x{63A}\x{641}-\x{64A}\x{904}-\x{939}\x{E01}-\x{E30}\x{10D0}-\x{10FA}\x{3041}-\x{3096}\x{30A1}-\x{30FA}\x{4E00}-\x{9FFF}\x{AC00}-\x{D7A3}\x{10400}-\x{1044F}\x{20000}-\x{2A6DF}`

var (
	blankForm   = regexp.MustCompile(`^[ \t\n\r]`)
	nameForm    = regexp.MustCompile(`^[` + letterClass + `][` + letterClass + `0-9\-_.]*`)
	integerForm = regexp.MustCompile(`^-?[0-9]+`)
	soundForm   = regexp.MustCompile(`^(0|-?[1-9][0-9]*)$`)
	signForm    = regexp.MustCompile(`^(!=|<=|>=|[(),=<>])`)
	partForm    = regexp.MustCompile(`^($|[ \t\n\r(),=!<>])`)
)

// A token of the second reading: its kind is n, i, l or s, or e at the text's end.
type token struct {
	kind byte
	at   int
	text string
	num  int
}

func soundInteger(s string) (int, bool) {
	n, _ := new(big.Int).SetString(s, 10)
	return int(n.Int64()), soundForm.MatchString(s) && n.IsInt64()
}

// secondTokens is the second reading of how a text is cut.
func secondTokens(s string) ([]token, api.Errno, int) {
	var out []token
	for at := 0; at < len(s); {
		rest := s[at:]
		if blankForm.MatchString(rest) {
			at++
			continue
		}
		t := token{at: at}
		if t.text = nameForm.FindString(rest); t.text != "" {
			t.kind = 'n'
			if runes := []rune(t.text); len(runes) > 48 {
				return nil, api.ErrNameLong, at + len(string(runes[:48]))
			}
			at += len(t.text)
		} else if t.text = integerForm.FindString(rest); t.text != "" {
			t.kind = 'i'
			sound := false
			if t.num, sound = soundInteger(t.text); !sound {
				return nil, api.ErrNumber, at
			}
			at += len(t.text)
		} else if rest[0] == '"' {
			t.kind = 'l'
			var e api.Errno
			if t.text, at, e = text.Unquote(s, at); e != api.OK {
				return nil, e, t.at
			}
		} else if t.text = signForm.FindString(rest); t.text != "" {
			t.kind = 's'
			at += len(t.text)
		} else {
			return nil, api.ErrToken, at
		}
		if t.kind != 's' && !partForm.MatchString(s[at:]) {
			return nil, api.ErrToken, at
		}
		out = append(out, t)
	}
	return out, api.OK, 0
}

// goal is something that is to be read: a word of the grammar, with how many items have been read of a list.
type goal struct {
	what string
	n    int
}

// machine is the second reading of the grammar: a pile of goals, and one token at a time. What was read of conditions lies on a pile too.
type machine struct {
	toks  []token
	end   int
	goals []goal
	open  int
	exprs []api.Expr
	q     api.Query
	at    int // of the first token of the test or the column that is being read
	test  api.Expr
	col   api.Column
	field int // where the field of the column stands
	e     api.Errno
	place int
}

func (m *machine) look(n int) token {
	if n < len(m.toks) {
		return m.toks[n]
	}
	return token{kind: 'e', at: m.end}
}

func (m *machine) stop(e api.Errno, at int) bool {
	m.e, m.place = e, at
	return false
}

// want puts goals on the pile, the first of them on top.
func (m *machine) want(goals ...string) {
	slices.Reverse(goals)
	for _, g := range goals {
		m.goals = append(m.goals, goal{g, 1})
	}
}

func (m *machine) step() { m.toks = m.toks[1:] }

func (t token) name(s string) bool { return t.kind == 'n' && t.text == s }

func (t token) sign(s string) bool { return t.kind == 's' && t.text == s }

// secondParse is the second reading of 20.2.
func secondParse(s string) (api.Query, api.Errno, int) {
	if len(s) > 65536 {
		return api.Query{}, api.ErrLong, 65536
	}
	toks, e, at := secondTokens(s)
	if e != api.OK {
		return api.Query{}, e, at
	}
	m := machine{toks: toks, end: len(s), q: api.Query{Limit: -1}}
	m.want("'from", "source", "where?", "group?", "'select", "col", "told", ",col", "order?", "limit?", "offset?")
	for len(m.goals) > 0 {
		g := m.goals[len(m.goals)-1]
		m.goals = m.goals[:len(m.goals)-1]
		if !m.reach(g) {
			return api.Query{}, m.e, m.place
		}
	}
	if t := m.look(0); t.kind != 'e' {
		return api.Query{}, api.ErrQuery, t.at
	}
	return m.q, api.OK, 0
}

// reach reads one goal; false, if that cannot be.
func (m *machine) reach(g goal) bool {
	t := m.look(0)
	switch {
	case strings.HasPrefix(g.what, "'"): // a word or a sign that must stand there
		if !t.name(g.what[1:]) && !t.sign(g.what[1:]) {
			return m.stop(api.ErrQuery, t.at)
		}
		m.step()
		return true
	case strings.HasSuffix(g.what, "?"):
		return m.option(g.what, t)
	case strings.ContainsAny(g.what[:1], ",&|"):
		return m.list(g, t)
	}
	switch g.what {
	case "source", "field", "group", "colfield":
		return m.named(g.what, t)
	case "limit", "offset":
		return m.bound(g.what, t)
	case "col", "type", "told", "keyed", "way":
		return m.column(g.what, t)
	}
	return m.condition(g.what, t)
}

func (m *machine) option(what string, t token) bool {
	if !t.name(what[:len(what)-1]) {
		return true
	}
	m.step()
	switch what {
	case "where?":
		m.want("cond", "whole")
	case "group?":
		m.want("'by", "group", ",group")
	case "order?":
		m.want("'by", "col", "keyed", "way", ",key")
	case "limit?", "offset?":
		m.want(what[:len(what)-1])
	}
	return true
}

// list goes on with a list, of which g.n items have been read, or ends it.
func (m *machine) list(g goal, t token) bool {
	joins := map[byte]bool{',': t.sign(","), '&': t.name("and"), '|': t.name("or")}[g.what[0]]
	if !joins {
		if g.what == "&one" {
			m.join(api.XAnd, g.n)
		} else if g.what == "|both" {
			m.join(api.XOr, g.n)
		}
		return true
	}
	m.step()
	if next := m.look(0); g.n == 64 && next.kind != 'e' {
		return m.stop(api.ErrItems, next.at)
	}
	m.goals = append(m.goals, goal{g.what, g.n + 1})
	switch g.what {
	case ",col":
		m.want("col", "told")
	case ",key":
		m.want("col", "keyed", "way")
	default:
		m.want(g.what[1:])
	}
	return true
}

// join puts the last n conditions together.
func (m *machine) join(kind, n int) {
	if n > 1 {
		from := len(m.exprs) - n
		m.exprs = append(m.exprs[:from:from], api.Expr{Kind: kind, Parts: slices.Clone(m.exprs[from:])})
	}
}

// named reads a name that must be a source or a field.
func (m *machine) named(what string, t token) bool {
	if t.kind != 'n' {
		return m.stop(api.ErrQuery, t.at)
	}
	m.step()
	if what == "source" {
		m.q.From = map[string]int{"records": 1, "sagas": 2}[t.text]
		return m.q.From != 0 || m.stop(api.ErrSource, t.at)
	}
	if typeOf(m.q.From, t.text) == 0 {
		return m.stop(api.ErrColumn, t.at)
	}
	switch what {
	case "field":
		m.test, m.at = api.Expr{Field: t.text}, t.at
	case "colfield":
		m.col.Field, m.field = t.text, t.at
	case "group":
		if slices.Contains(m.q.Group, t.text) {
			return m.stop(api.ErrGroup, t.at)
		}
		m.q.Group = append(m.q.Group, t.text)
	}
	return true
}

func (m *machine) bound(what string, t token) bool {
	if t.kind != 'i' {
		return m.stop(api.ErrQuery, t.at)
	}
	m.step()
	if t.num < 0 {
		return m.stop(api.ErrBounds, t.at)
	}
	if what == "limit" {
		m.q.Limit = t.num
	} else {
		m.q.Offset = t.num
	}
	return true
}

func (m *machine) column(what string, t token) bool {
	stands := func() bool { return canStand(m.q, m.col) || m.stop(api.ErrGroup, m.at) }
	switch what {
	case "col":
		m.col, m.at = api.Column{}, t.at
		if t.kind != 'n' || !m.look(1).sign("(") {
			m.want("colfield")
			return true
		}
		if m.col.Kind = slices.Index([]string{"", "count", "sum", "min", "max"}, t.text); m.col.Kind < 0 {
			return m.stop(api.ErrQuery, t.at)
		}
		m.step()
		if m.col.Kind == api.YCount {
			m.want("'(", "')")
		} else {
			m.want("'(", "colfield", "')", "type")
		}
	case "type":
		kind := typeOf(m.q.From, m.col.Field)
		if m.col.Kind == api.YSum && kind != api.CInt || kind == api.CBool {
			return m.stop(api.ErrType, m.field)
		}
	case "told":
		m.q.Cols = append(m.q.Cols, m.col)
		return stands()
	case "keyed":
		m.q.Order = append(m.q.Order, api.Key{Col: m.col})
		return stands()
	case "way":
		if t.name("asc") || t.name("desc") {
			m.q.Order[len(m.q.Order)-1].Desc = t.text == "desc"
			m.step()
		}
	}
	return true
}

func (m *machine) condition(what string, t token) bool {
	switch what {
	case "whole":
		m.q.Where = m.exprs[0]
	case "cond":
		m.want("both", "|both")
	case "both":
		m.want("one", "&one")
	case "one":
		return m.one(t)
	case "closed", "negated":
		m.open--
		if last := len(m.exprs) - 1; what == "negated" {
			m.exprs[last] = api.Expr{Kind: api.XNot, Parts: []api.Expr{m.exprs[last]}}
		}
	case "asked":
		return m.asked(t)
	case "value", "literal":
		return m.value(what, t)
	case "tested":
		kind := typeOf(m.q.From, m.test.Field)
		other := slices.ContainsFunc(m.test.Cells, func(c api.Cell) bool { return c.Kind != kind })
		if other || !slices.Contains(kindsOf[kind], m.test.Kind) {
			return m.stop(api.ErrType, m.at)
		}
		m.exprs = append(m.exprs, m.test)
	}
	return true
}

func (m *machine) one(t token) bool {
	if !t.name("not") && !t.sign("(") {
		m.want("field", "asked")
		return true
	}
	if m.open == 16 {
		return m.stop(api.ErrNest, t.at)
	}
	m.open++
	m.step()
	if t.sign("(") {
		m.want("cond", "')", "closed")
	} else {
		m.want("one", "negated")
	}
	return true
}

// asked reads what comes behind a test's field.
func (m *machine) asked(t token) bool {
	signs := []string{"", "=", "!=", "<", "<=", ">", ">="}
	words := []string{"in", "starts", "contains"}
	switch {
	case t.kind == 's' && slices.Contains(signs, t.text):
		m.test.Kind = slices.Index(signs, t.text)
		m.want("value", "tested")
	case t.name("in"):
		m.test.Kind = api.XIn
		m.want("'(", "value", ",value", "')", "tested")
	case t.kind == 'n' && slices.Contains(words, t.text):
		m.test.Kind = api.XIn + slices.Index(words, t.text)
		m.want("literal", "tested")
	default:
		m.test.Kind = api.XIs
		m.want("tested")
		return true
	}
	m.step()
	return true
}

func (m *machine) value(what string, t token) bool {
	var c api.Cell
	switch {
	case t.kind == 'l':
		c = api.Cell{Kind: api.CText, Text: t.text}
	case what == "literal":
		return m.stop(api.ErrQuery, t.at)
	case t.kind == 'i':
		c = api.Cell{Kind: api.CInt, Int: t.num}
	case t.name("true"), t.name("false"):
		c = api.Cell{Kind: api.CBool, Int: len("false") - len(t.text)}
	default:
		return m.stop(api.ErrQuery, t.at)
	}
	m.step()
	m.test.Cells = append(m.test.Cells, c)
	return true
}
