package query

import (
	"slices"

	"annals/api"
)

// Parse reads a query's text, or tells where it is none.
func Parse(text string) (api.Query, api.Errno, int) {
	if len(text) > api.MaxScript {
		return api.Query{}, api.ErrLong, api.MaxScript
	}
	words, e, at := tokens(text)
	if e != api.OK {
		return api.Query{}, e, at
	}
	p := parser{words: words, end: len(text)}
	p.query()
	if p.e != api.OK {
		return api.Query{}, p.e, p.at
	}
	return p.q, api.OK, 0
}

// parser reads the query that tokens say. Its first fault stays, and behind it there are no tokens any more: so whatever is read then comes to its end by itself, and no reading has to ask whether one ahead of it failed.
type parser struct {
	words []api.Word // those that are left
	end   int        // the text's length
	open  int        // parentheses of the condition, and `not`s
	q     api.Query
	e     api.Errno
	at    int
}

func (p *parser) fail(e api.Errno, at int) {
	if p.e == api.OK {
		p.e, p.at = e, at
	}
	p.words = nil
}

// next is the token that comes next; one of no kind, at the text's end.
func (p *parser) next() api.Word {
	if len(p.words) == 0 {
		return api.Word{At: p.end}
	}
	return p.words[0]
}

// take takes a token, which must be of that kind.
func (p *parser) take(kind int) api.Word {
	w := p.next()
	if w.Kind != kind {
		p.fail(api.ErrQuery, w.At)
		return api.Word{}
	}
	p.words = p.words[1:]
	return w
}

// comes tells whether that name or sign comes next.
func (p *parser) comes(kind int, what string) bool {
	w := p.next()
	return w.Kind == kind && w.Text == what
}

// may takes that name or sign, if it comes next.
func (p *parser) may(kind int, what string) bool {
	is := p.comes(kind, what)
	if is {
		p.take(kind)
	}
	return is
}

// must takes that name or sign, which must come next.
func (p *parser) must(kind int, what string) {
	if !p.may(kind, what) {
		p.fail(api.ErrQuery, p.next().At)
	}
}

// several reads items, up to MaxItems of them, with that name or sign between.
func (p *parser) several(kind int, between string, item func()) {
	item()
	for n := 1; p.may(kind, between); n++ {
		if w := p.next(); n == api.MaxItems && w.Kind != 0 {
			p.fail(api.ErrItems, w.At)
		}
		item()
	}
}

func (p *parser) query() {
	p.must(api.WName, "from")
	p.source()
	if p.may(api.WName, "where") {
		p.q.Where = p.cond()
	}
	if p.may(api.WName, "group") {
		p.must(api.WName, "by")
		p.several(api.WSign, ",", p.grouped)
	}
	p.must(api.WName, "select")
	p.several(api.WSign, ",", p.told)
	if p.may(api.WName, "order") {
		p.must(api.WName, "by")
		p.several(api.WSign, ",", p.key)
	}
	p.q.Limit = p.bound("limit", noLimit)
	p.q.Offset = p.bound("offset", 0)
	if w := p.next(); w.Kind != 0 {
		p.fail(api.ErrQuery, w.At)
	}
}

func (p *parser) source() {
	w := p.take(api.WName)
	for from, name := range sources {
		if name == w.Text {
			p.q.From = from
		}
	}
	if p.q.From == 0 {
		p.fail(api.ErrSource, w.At)
	}
}

// field takes a field of the source, and tells the kind of its cells too.
func (p *parser) field() (string, int) {
	w := p.take(api.WName)
	kind := kindOf(p.q.From, w.Text)
	if kind == api.CNone {
		p.fail(api.ErrColumn, w.At)
	}
	return w.Text, kind
}

func (p *parser) grouped() {
	at := p.next().At
	field, _ := p.field()
	if slices.Contains(p.q.Group, field) {
		p.fail(api.ErrGroup, at)
	}
	p.q.Group = append(p.q.Group, field)
}

func (p *parser) told() {
	at := p.next().At
	p.q.Cols = append(p.q.Cols, p.column()) // ahead of asking whether it may stand: the first one says what may
	p.stand(p.q.Cols[len(p.q.Cols)-1], at)
}

func (p *parser) key() {
	at := p.next().At
	k := api.Key{Col: p.column()}
	p.stand(k.Col, at)
	k.Desc = p.may(api.WName, "desc")
	if !k.Desc {
		p.may(api.WName, "asc")
	}
	p.q.Order = append(p.q.Order, k)
}

// stand asks whether a column that begins at at may stand in the query.
func (p *parser) stand(c api.Column, at int) {
	if !stands(p.q, c) {
		p.fail(api.ErrGroup, at)
	}
}

func (p *parser) column() api.Column {
	if len(p.words) < 2 || p.words[1].Kind != api.WSign || p.words[1].Text != "(" {
		field, _ := p.field()
		return api.Column{Field: field}
	}
	c := api.Column{Kind: p.reckoning()}
	p.must(api.WSign, "(")
	at, kind := p.next().At, api.CNone
	if c.Kind != api.YCount {
		c.Field, kind = p.field()
	}
	p.must(api.WSign, ")")
	if !reckonable(c.Kind, kind) {
		p.fail(api.ErrType, at)
	}
	return c
}

// reckoning takes the word for what is reckoned.
func (p *parser) reckoning() int {
	w := p.take(api.WName)
	for kind, word := range reckons {
		if word == w.Text {
			return kind
		}
	}
	p.fail(api.ErrQuery, w.At)
	return api.YField
}

// bound takes that word and the integer behind it, if the word comes next.
func (p *parser) bound(word string, without int) int {
	if !p.may(api.WName, word) {
		return without
	}
	w := p.take(api.WNumber)
	if w.Num < 0 {
		p.fail(api.ErrBounds, w.At)
	}
	return w.Num
}
