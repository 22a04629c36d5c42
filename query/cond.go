package query

import (
	"cmp"
	"slices"
	"strings"

	"annals/api"
)

// test is a condition, ready to be asked of rows.
type test interface {
	holds(r row) bool
}

// testOf makes a condition that was checked into a test.
func testOf(e api.Expr) test {
	switch e.Kind {
	case api.XNone:
		return every{} // of no part: it always holds
	case api.XIn:
		return among{e.Field, e.Cells}
	case api.XStarts:
		return starts{e.Field, e.Cells[0].Text}
	case api.XHas:
		return contains{e.Field, e.Cells[0].Text}
	case api.XIs:
		return isTrue{e.Field}
	case api.XNot:
		return not{testOf(e.Parts[0])}
	case api.XAnd:
		return every{testsOf(e.Parts)}
	case api.XOr:
		return some{testsOf(e.Parts)}
	}
	return compared{e.Kind, e.Field, e.Cells[0]}
}

func testsOf(parts []api.Expr) []test {
	tests := make([]test, 0, len(parts))
	for _, p := range parts {
		tests = append(tests, testOf(p))
	}
	return tests
}

// outcomes tells by the kind of a comparison whether it holds of a field that is below the cell, equal to it, above it.
var outcomes = [...][3]bool{
	api.XEq: {false, true, false},
	api.XNe: {true, false, true},
	api.XLt: {true, false, false},
	api.XLe: {true, true, false},
	api.XGt: {false, false, true},
	api.XGe: {false, true, true},
}

// order is -1, 0 or 1, as a cell is below, equal to or above another of its kind; what a kind does not use is zero in both.
func order(a, b api.Cell) int {
	return cmp.Or(cmp.Compare(a.Int, b.Int), strings.Compare(a.Text, b.Text))
}

type compared struct {
	kind  int
	field string
	with  api.Cell
}

func (t compared) holds(r row) bool { return outcomes[t.kind][order(r.cell(t.field), t.with)+1] }

type among struct {
	field string
	cells []api.Cell
}

func (t among) holds(r row) bool { return slices.Contains(t.cells, r.cell(t.field)) }

type starts struct{ field, with string }

func (t starts) holds(r row) bool { return strings.HasPrefix(r.cell(t.field).Text, t.with) }

type contains struct{ field, what string }

func (t contains) holds(r row) bool { return strings.Contains(r.cell(t.field).Text, t.what) }

type isTrue struct{ field string }

func (t isTrue) holds(r row) bool { return r.cell(t.field) == truth(true) }

type not struct{ part test }

func (t not) holds(r row) bool { return !t.part.holds(r) }

type every struct{ parts []test }

func (t every) holds(r row) bool {
	for _, p := range t.parts {
		if !p.holds(r) {
			return false
		}
	}
	return true
}

type some struct{ parts []test }

func (t some) holds(r row) bool {
	for _, p := range t.parts {
		if p.holds(r) {
			return true
		}
	}
	return false
}
