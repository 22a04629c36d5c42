package query

import (
	"slices"

	"annals/api"
)

// Check tells whether the values may be a query.
func Check(q api.Query) api.Errno {
	// Each of them leans on what those ahead of it have taken.
	for _, check := range [...]func(api.Query) api.Errno{checkFrom, checkWhere, checkGroup, checkCols, checkOrder, checkBounds} {
		if e := check(q); e != api.OK {
			return e
		}
	}
	return api.OK
}

func checkFrom(q api.Query) api.Errno {
	if q.From != api.FromRecords && q.From != api.FromSagas {
		return api.ErrSource
	}
	return api.OK
}

func checkWhere(q api.Query) api.Errno { return checkCond(q.From, q.Where, api.XNone, 0) }

// checkCond checks a part of a condition, and all within it. Around it stand a part of the kind outer (XNone: it is the whole), and so many `not`s and parentheses.
func checkCond(from int, e api.Expr, outer, depth int) api.Errno {
	if e.Kind == api.XNot || wrapped(e.Kind, outer) {
		depth++
	}
	if fault := checkPart(from, e, outer, depth); fault != api.OK {
		return fault
	}
	for _, part := range e.Parts {
		if fault := checkCond(from, part, e.Kind, depth); fault != api.OK {
			return fault
		}
	}
	return api.OK
}

// wrapped tells whether a part is put in parentheses within a part of the kind outer.
func wrapped(kind, outer int) bool {
	switch outer {
	case api.XNot, api.XAnd:
		return kind == api.XAnd || kind == api.XOr
	case api.XOr:
		return kind == api.XOr
	}
	return false
}

// checkPart checks a part of a condition, without the parts within it.
func checkPart(from int, e api.Expr, outer, depth int) api.Errno {
	switch {
	case !filled(e) || e.Kind == api.XNone && outer != api.XNone:
		return api.ErrQuery
	case len(e.Cells) > api.MaxItems || len(e.Parts) > api.MaxItems:
		return api.ErrItems
	case slices.ContainsFunc(e.Cells, unsound):
		return api.ErrQuery
	case depth > api.MaxDepth:
		return api.ErrNest
	case api.XEq <= e.Kind && e.Kind <= api.XIs:
		return checkTest(from, e)
	}
	return api.OK
}

// filled tells whether a part has as many cells and parts as its kind must have, and a field only where there may be one.
func filled(e api.Expr) bool {
	cells, parts := len(e.Cells), len(e.Parts)
	switch e.Kind {
	case api.XNone:
		return e.Field == "" && cells == 0 && parts == 0
	case api.XEq, api.XNe, api.XLt, api.XLe, api.XGt, api.XGe, api.XStarts, api.XHas:
		return cells == 1 && parts == 0
	case api.XIn:
		return cells >= 1 && parts == 0
	case api.XIs:
		return cells == 0 && parts == 0
	case api.XNot:
		return e.Field == "" && cells == 0 && parts == 1
	case api.XAnd, api.XOr:
		return e.Field == "" && cells == 0 && parts >= 2
	}
	return false
}

// unsound tells whether a cell is no value, or holds what its kind may not.
func unsound(c api.Cell) bool {
	switch c.Kind {
	case api.CInt:
		return c != number(c.Int)
	case api.CText:
		return c != letters(c.Text)
	case api.CBool:
		return c != truth(false) && c != truth(true)
	}
	return true
}

func checkTest(from int, e api.Expr) api.Errno {
	kind := kindOf(from, e.Field)
	switch {
	case kind == api.CNone:
		return api.ErrColumn
	case !fits(e, kind):
		return api.ErrType
	}
	return api.OK
}

// fits tells whether a test may be one of a field with cells of that kind.
func fits(e api.Expr, kind int) bool {
	if slices.ContainsFunc(e.Cells, func(c api.Cell) bool { return c.Kind != kind }) {
		return false
	}
	switch kind {
	case api.CInt:
		return e.Kind <= api.XIn
	case api.CText:
		return e.Kind <= api.XHas
	}
	return e.Kind == api.XEq || e.Kind == api.XNe || e.Kind == api.XIs
}

func checkGroup(q api.Query) api.Errno {
	if len(q.Group) > api.MaxItems {
		return api.ErrItems
	}
	for i, field := range q.Group {
		switch {
		case kindOf(q.From, field) == api.CNone:
			return api.ErrColumn
		case slices.Contains(q.Group[:i], field):
			return api.ErrGroup
		}
	}
	return api.OK
}

func checkCols(q api.Query) api.Errno {
	switch {
	case len(q.Cols) == 0:
		return api.ErrQuery
	case len(q.Cols) > api.MaxItems:
		return api.ErrItems
	}
	for _, c := range q.Cols {
		if e := checkColumn(q, c); e != api.OK {
			return e
		}
	}
	return api.OK
}

func checkOrder(q api.Query) api.Errno {
	if len(q.Order) > api.MaxItems {
		return api.ErrItems
	}
	for _, k := range q.Order {
		if e := checkColumn(q, k.Col); e != api.OK {
			return e
		}
	}
	return api.OK
}

// checkColumn checks one column of a query whose first one is there.
func checkColumn(q api.Query, c api.Column) api.Errno {
	kind := kindOf(q.From, c.Field)
	switch {
	case c.Kind < api.YField || c.Kind > api.YMax || c.Kind == api.YCount && c.Field != "":
		return api.ErrQuery
	case c.Kind != api.YCount && kind == api.CNone:
		return api.ErrColumn
	case !reckonable(c.Kind, kind):
		return api.ErrType
	case !stands(q, c):
		return api.ErrGroup
	}
	return api.OK
}

// reckonable tells whether a column of the kind column may be one of a field with cells of that kind.
func reckonable(column, kind int) bool {
	switch column {
	case api.YSum:
		return kind == api.CInt
	case api.YMin, api.YMax:
		return kind == api.CInt || kind == api.CText
	}
	return true
}

// stands tells whether a column may stand in a query with that Group and that first column.
func stands(q api.Query, c api.Column) bool {
	if len(q.Group) > 0 {
		return reckoned(c) || slices.Contains(q.Group, c.Field)
	}
	return reckoned(c) == reckoned(q.Cols[0])
}

func reckoned(c api.Column) bool { return c.Kind != api.YField }

func checkBounds(q api.Query) api.Errno {
	if q.Limit < noLimit || q.Offset < 0 {
		return api.ErrBounds
	}
	return api.OK
}
