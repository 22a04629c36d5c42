package query

import "annals/api"

func (p *parser) cond() api.Expr { return p.joined(api.XOr, "or", p.both) }

func (p *parser) both() api.Expr { return p.joined(api.XAnd, "and", p.one) }

// joined reads parts with a word between; a single one is itself.
func (p *parser) joined(kind int, word string, part func() api.Expr) api.Expr {
	var parts []api.Expr
	p.several(api.WName, word, func() { parts = append(parts, part()) })
	if len(parts) == 1 {
		return parts[0]
	}
	return api.Expr{Kind: kind, Parts: parts}
}

func (p *parser) one() api.Expr {
	switch {
	case p.comes(api.WName, "not"):
		p.deeper()
		part := p.one()
		p.open--
		return api.Expr{Kind: api.XNot, Parts: []api.Expr{part}}
	case p.comes(api.WSign, "("):
		p.deeper()
		e := p.cond()
		p.must(api.WSign, ")")
		p.open--
		return e
	}
	return p.test()
}

// deeper takes a `(` or a `not`, which is open from then on.
func (p *parser) deeper() {
	w := p.next()
	if p.open == api.MaxDepth {
		p.fail(api.ErrNest, w.At)
		return
	}
	p.take(w.Kind)
	p.open++
}

func (p *parser) test() api.Expr {
	at := p.next().At
	field, kind := p.field()
	e := api.Expr{Field: field}
	e.Kind = p.asked()
	switch e.Kind {
	case api.XIs:
	case api.XIn:
		p.must(api.WSign, "(")
		p.several(api.WSign, ",", func() { e.Cells = append(e.Cells, p.value()) })
		p.must(api.WSign, ")")
	case api.XStarts, api.XHas:
		e.Cells = []api.Cell{letters(p.take(api.WLiteral).Text)}
	default:
		e.Cells = []api.Cell{p.value()}
	}
	if !fits(e, kind) {
		p.fail(api.ErrType, at)
	}
	return e
}

// asked takes what is asked of a field, if something is: else it stands alone.
func (p *parser) asked() int {
	w := p.next()
	if w.Kind == api.WSign {
		for kind, sign := range signs {
			if sign == w.Text {
				p.take(api.WSign)
				return kind
			}
		}
	}
	switch {
	case p.may(api.WName, "in"):
		return api.XIn
	case p.may(api.WName, "starts"):
		return api.XStarts
	case p.may(api.WName, "contains"):
		return api.XHas
	}
	return api.XIs
}

func (p *parser) value() api.Cell {
	switch w := p.next(); {
	case w.Kind == api.WNumber:
		return number(p.take(api.WNumber).Num)
	case w.Kind == api.WLiteral:
		return letters(p.take(api.WLiteral).Text)
	case p.may(api.WName, "true"):
		return truth(true)
	}
	p.must(api.WName, "false")
	return truth(false)
}
