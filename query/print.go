package query

import (
	"strconv"
	"strings"

	"annals/api"
	"annals/text"
)

// The words and signs of the text, by the numbers of what they stand for; an empty one is none.
var (
	sources = [...]string{api.FromRecords: "records", api.FromSagas: "sagas"}
	signs   = [...]string{api.XEq: "=", api.XNe: "!=", api.XLt: "<", api.XLe: "<=", api.XGt: ">", api.XGe: ">="}
	reckons = [...]string{api.YCount: "count", api.YSum: "sum", api.YMin: "min", api.YMax: "max"}
)

const (
	comma   = ", "
	noLimit = -1
)

// Print writes a query's text.
func Print(q api.Query) (string, api.Errno) {
	if e := Check(q); e != api.OK {
		return "", e
	}
	out := "from " + sources[q.From]
	if q.Where.Kind != api.XNone {
		out += " where " + condText(q.Where)
	}
	if len(q.Group) > 0 {
		out += " group by " + strings.Join(q.Group, comma)
	}
	out += " select " + listed(q.Cols, columnText)
	if len(q.Order) > 0 {
		out += " order by " + listed(q.Order, keyText)
	}
	if q.Limit != noLimit {
		out += " limit " + strconv.Itoa(q.Limit)
	}
	if q.Offset != 0 {
		out += " offset " + strconv.Itoa(q.Offset)
	}
	return out, api.OK
}

// texts is the text of each item.
func texts[T any](items []T, text func(T) string) []string {
	out := make([]string, 0, len(items))
	for _, i := range items {
		out = append(out, text(i))
	}
	return out
}

func listed[T any](items []T, text func(T) string) string {
	return strings.Join(texts(items, text), comma)
}

func condText(e api.Expr) string {
	parts := texts(e.Parts, func(part api.Expr) string {
		if wrapped(part.Kind, e.Kind) {
			return "(" + condText(part) + ")"
		}
		return condText(part)
	})
	switch e.Kind {
	case api.XNot:
		return "not " + parts[0]
	case api.XAnd:
		return strings.Join(parts, " and ")
	case api.XOr:
		return strings.Join(parts, " or ")
	}
	return testText(e)
}

func testText(e api.Expr) string {
	cells := listed(e.Cells, cellText)
	switch e.Kind {
	case api.XIn:
		return e.Field + " in (" + cells + ")"
	case api.XStarts:
		return e.Field + " starts " + cells
	case api.XHas:
		return e.Field + " contains " + cells
	case api.XIs:
		return e.Field
	}
	return e.Field + " " + signs[e.Kind] + " " + cells
}

func cellText(c api.Cell) string {
	switch c.Kind {
	case api.CText:
		return text.Quote(c.Text)
	case api.CBool:
		return strconv.FormatBool(c.Int == 1)
	}
	return strconv.Itoa(c.Int)
}

func columnText(c api.Column) string {
	if reckoned(c) {
		return reckons[c.Kind] + "(" + c.Field + ")"
	}
	return c.Field
}

func keyText(k api.Key) string {
	if k.Desc {
		return columnText(k.Col) + " desc"
	}
	return columnText(k.Col)
}
