package query_test

import (
	"fmt"
	"math/big"
	"slices"
	"strings"

	"annals/api"
	"annals/record"
	"annals/saga"
	"annals/text"
)

// rule is one of the chapter's errors, and whether it applies.
type rule struct {
	applies bool
	e       api.Errno
}

// shapes is the table of conditions: the Field, the Cells, the Parts of each kind.
var shapes = map[int]string{
	0: "- - -", 1: "f 1 -", 2: "f 1 -", 3: "f 1 -", 4: "f 1 -", 5: "f 1 -", 6: "f 1 -", 7: "f 1+ -",
	8: "f 1 -", 9: "f 1 -", 10: "f - -", 11: "- - 1", 12: "- - 2+", 13: "- - 2+",
}

// kindsOf is which kinds of tests may stand of a field, by the kind of its cells.
var kindsOf = map[int][]int{api.CInt: {1, 2, 3, 4, 5, 6, 7}, api.CText: {1, 2, 3, 4, 5, 6, 7, 8, 9}, api.CBool: {1, 2, 10}}

func counts(n int, rule string) bool {
	switch rule {
	case "-":
		return n == 0
	case "1":
		return n == 1
	case "1+":
		return n >= 1
	}
	return n >= 2
}

func shaped(e api.Expr) bool {
	shape, known := shapes[e.Kind]
	if !known {
		return false
	}
	s := strings.Fields(shape)
	return (s[0] == "f" || e.Field == "") && counts(len(e.Cells), s[1]) && counts(len(e.Parts), s[2])
}

// soundCell tells whether a cell is one of those that hold just what their kinds may.
func soundCell(c api.Cell) bool {
	return slices.Contains([]api.Cell{{Kind: api.CInt, Int: c.Int}, {Kind: api.CText, Text: c.Text}, {Kind: api.CBool}, {Kind: api.CBool, Int: 1}}, c)
}

// bracketed tells whether a part stands in parentheses within another.
func bracketed(part, within int) bool {
	return slices.Contains([]string{"12 in 12", "13 in 12", "13 in 13", "12 in 11", "13 in 11"}, fmt.Sprintf("%d in %d", part, within))
}

// depth is how many `not`s and parentheses are open at the last of a path of parts, each within the one ahead of it.
func depth(path []api.Expr) int {
	n := 0
	for i, e := range path {
		if e.Kind == api.XNot {
			n++
		}
		if i > 0 && bracketed(e.Kind, path[i-1].Kind) {
			n++
		}
	}
	return n
}

// partRules is the rules of a part of a condition and of all within it; path is the parts from the whole down to it.
func partRules(from int, path []api.Expr) []rule {
	e := path[len(path)-1]
	rules := []rule{
		{!shaped(e) || e.Kind == 0 && len(path) > 1, api.ErrQuery},
		{len(e.Cells) > 64 || len(e.Parts) > 64, api.ErrItems},
		{slices.ContainsFunc(e.Cells, func(c api.Cell) bool { return !soundCell(c) }), api.ErrQuery},
		{depth(path) > 16, api.ErrNest},
	}
	if e.Kind >= 1 && e.Kind <= 10 {
		kind := typeOf(from, e.Field)
		other := slices.ContainsFunc(e.Cells, func(c api.Cell) bool { return c.Kind != kind })
		rules = append(rules, rule{kind == 0, api.ErrColumn}, rule{other || !slices.Contains(kindsOf[kind], e.Kind), api.ErrType})
	}
	for _, p := range e.Parts {
		rules = append(rules, partRules(from, append(slices.Clone(path), p))...)
	}
	return rules
}

// canStand tells whether a column may stand in a query, as the paragraph on columns says.
func canStand(q api.Query, c api.Column) bool {
	switch {
	case len(q.Group) > 0 && c.Kind == 0:
		return slices.Contains(q.Group, c.Field)
	case len(q.Group) > 0:
		return true
	}
	return (c.Kind == 0) == (q.Cols[0].Kind == 0)
}

func columnRules(q api.Query, c api.Column) []rule {
	kind := typeOf(q.From, c.Field)
	return []rule{
		{c.Kind < 0 || c.Kind > 4 || c.Kind == 1 && c.Field != "", api.ErrQuery},
		{c.Kind != 1 && kind == 0, api.ErrColumn},
		{c.Kind == 2 && kind != 1 || c.Kind > 2 && kind == 3, api.ErrType},
		{!canStand(q, c), api.ErrGroup},
	}
}

// secondCheck is the second reading of 20.1: all its rules, in their order, whether those ahead of them apply or not.
func secondCheck(q api.Query) api.Errno {
	rules := []rule{{q.From != 1 && q.From != 2, api.ErrSource}}
	rules = append(rules, partRules(q.From, []api.Expr{q.Where})...)
	rules = append(rules, rule{len(q.Group) > 64, api.ErrItems})
	for i, f := range q.Group {
		rules = append(rules, rule{typeOf(q.From, f) == 0, api.ErrColumn}, rule{slices.Index(q.Group, f) < i, api.ErrGroup})
	}
	rules = append(rules, rule{len(q.Cols) == 0, api.ErrQuery}, rule{len(q.Cols) > 64, api.ErrItems})
	for _, c := range q.Cols {
		rules = append(rules, columnRules(q, c)...)
	}
	rules = append(rules, rule{len(q.Order) > 64, api.ErrItems})
	for _, k := range q.Order {
		if len(q.Cols) > 0 {
			rules = append(rules, columnRules(q, k.Col)...)
		}
	}
	rules = append(rules, rule{q.Limit < -1 || q.Offset < 0, api.ErrBounds})
	for _, r := range rules {
		if r.applies {
			return r.e
		}
	}
	return api.OK
}

const callParen = "call(" // the parenthesis of a reckoned column, ahead of which no blank stands

// tokensOf is the tokens of a condition in their order.
func tokensOf(e api.Expr) []string {
	var out []string
	switch e.Kind {
	case api.XNot:
		out = append(out, "not")
	case api.XIs:
		return []string{e.Field}
	case api.XAnd, api.XOr:
	default:
		words := []string{"", "=", "!=", "<", "<=", ">", ">=", "in", "starts", "contains"}
		out = []string{e.Field, words[e.Kind]}
		if e.Kind == api.XIn {
			out = append(out, "(")
		}
		for i, c := range e.Cells {
			if i > 0 {
				out = append(out, ",")
			}
			out = append(out, []string{"", fmt.Sprint(c.Int), text.Quote(c.Text), fmt.Sprint(c.Int == 1)}[c.Kind])
		}
		if e.Kind == api.XIn {
			out = append(out, ")")
		}
		return out
	}
	for i, p := range e.Parts {
		if i > 0 {
			out = append(out, map[int]string{api.XAnd: "and", api.XOr: "or"}[e.Kind])
		}
		if bracketed(p.Kind, e.Kind) {
			out = append(append(append(out, "("), tokensOf(p)...), ")")
		} else {
			out = append(out, tokensOf(p)...)
		}
	}
	return out
}

func columnTokens(c api.Column) []string {
	switch c.Kind {
	case 0:
		return []string{c.Field}
	case 1:
		return []string{"count", callParen, ")"}
	}
	return []string{[]string{"sum", "min", "max"}[c.Kind-2], callParen, c.Field, ")"}
}

// queryTokens is the tokens of a query that Check takes, in their order.
func queryTokens(q api.Query) []string {
	out := []string{"from", []string{"", "records", "sagas"}[q.From]}
	if q.Where.Kind != 0 {
		out = append(append(out, "where"), tokensOf(q.Where)...)
	}
	for i, f := range q.Group {
		out = append(out, [][]string{{"group", "by"}, {","}}[min(i, 1)]...)
		out = append(out, f)
	}
	for i, c := range q.Cols {
		out = append(append(out, []string{"select", ","}[min(i, 1)]), columnTokens(c)...)
	}
	for i, k := range q.Order {
		out = append(append(out, [][]string{{"order", "by"}, {","}}[min(i, 1)]...), columnTokens(k.Col)...)
		if k.Desc {
			out = append(out, "desc")
		}
	}
	if q.Limit != -1 {
		out = append(out, "limit", fmt.Sprint(q.Limit))
	}
	if q.Offset != 0 {
		out = append(out, "offset", fmt.Sprint(q.Offset))
	}
	return out
}

// secondPrint is the second reading of 20.3, of a query that Check takes.
func secondPrint(q api.Query) string {
	out, ahead := "", "("
	for _, t := range queryTokens(q) {
		if t != "," && t != ")" && t != callParen && ahead != "(" && ahead != callParen {
			out += " "
		}
		out += strings.Replace(t, callParen, "(", 1)
		ahead = t
	}
	return out
}

// ids is the sagas of records, rising.
func ids(recs []api.Record) []int {
	var out []int
	for _, r := range recs {
		out = append(out, r.Saga)
	}
	slices.Sort(out)
	return slices.Compact(out)
}

// told is the saga to which the records of one id lead; false, if one of them may not come.
func told(recs []api.Record, id int) (api.Saga, bool) {
	var s api.Saga
	e, begun := api.OK, false
	for _, r := range recs {
		if r.Saga != id || e != api.OK {
			continue
		}
		if begun {
			s, e = saga.Apply(s, r)
		} else {
			s, e = saga.Begin(r)
		}
		begun = true
	}
	return s, e == api.OK
}

func cellOf(v any) api.Cell {
	switch x := v.(type) {
	case int:
		return api.Cell{Kind: api.CInt, Int: x}
	case bool:
		return api.Cell{Kind: api.CBool, Int: map[bool]int{true: 1}[x]}
	}
	return api.Cell{Kind: api.CText, Text: fmt.Sprintf("%s", v)}
}

func rowOf(values map[string]any) map[string]api.Cell {
	out := map[string]api.Cell{}
	for field, v := range values {
		out[field] = cellOf(v)
	}
	return out
}

// secondRows is the rows of a source, each with all its fields.
func secondRows(from int, recs []api.Record) []map[string]api.Cell {
	var out []map[string]api.Cell
	if from == api.FromRecords {
		for _, r := range recs {
			kind := strings.Fields("begin start done fail undo undone end")[r.Kind-1]
			out = append(out, rowOf(map[string]any{"v": r.V, "saga": r.Saga, "step": r.Step, "try": r.Try, "at": r.At, "last": r.Last, "code": r.Code, "count": r.Count, "pivot": r.Pivot, "kind": kind, "name": r.Name, "data": r.Data}))
		}
		return out
	}
	for _, id := range ids(recs) {
		if s, legal := told(recs, id); legal {
			phase := strings.Fields("running undoing whole undone")[s.Phase-1]
			out = append(out, rowOf(map[string]any{"id": s.ID, "count": s.Count, "pivot": s.Pivot, "begun": s.Begun, "at": s.At, "next": s.Next, "tries": s.Tries, "outs": len(s.Outs), "undos": len(s.Undos), "fail_step": s.FailStep, "fail_code": s.FailCode, "name": s.Name, "phase": phase, "input": s.Input, "fail": s.Fail, "flight": s.Flight}))
		}
	}
	return out
}

// below tells whether a cell is below another one of its kind.
func below(a, b api.Cell) bool {
	if a.Kind == api.CText {
		return a.Text < b.Text
	}
	return a.Int < b.Int
}

// secondHolds tells whether a condition holds of a row.
func secondHolds(e api.Expr, row map[string]api.Cell) bool {
	holding := 0
	for _, p := range e.Parts {
		if secondHolds(p, row) {
			holding++
		}
	}
	switch e.Kind {
	case api.XNone:
		return true
	case api.XNot:
		return holding == 0
	case api.XAnd:
		return holding == len(e.Parts)
	case api.XOr:
		return holding > 0
	}
	c := row[e.Field]
	switch e.Kind {
	case api.XIs:
		return c.Int == 1
	case api.XIn:
		for _, x := range e.Cells {
			if !below(x, c) && !below(c, x) {
				return true
			}
		}
		return false
	}
	x := e.Cells[0]
	switch e.Kind {
	case api.XEq:
		return c == x
	case api.XNe:
		return c != x
	case api.XLt:
		return below(c, x)
	case api.XLe:
		return below(c, x) || c == x
	case api.XGt:
		return below(x, c)
	case api.XGe:
		return below(x, c) || c == x
	case api.XStarts:
		return len(c.Text) >= len(x.Text) && c.Text[:len(x.Text)] == x.Text
	}
	return len(strings.Split(c.Text, x.Text)) > 1 || x.Text == ""
}

type rows = []map[string]api.Cell

// secondCell is what a column tells of rows; false, if it is a sum outside int.
func secondCell(c api.Column, list rows) (api.Cell, bool) {
	if c.Kind == api.YField {
		return list[0][c.Field], true
	}
	if c.Kind == api.YCount {
		return api.Cell{Kind: api.CInt, Int: len(list)}, true
	}
	sum := new(big.Int)
	var cells []api.Cell
	for _, row := range list {
		cells = append(cells, row[c.Field])
		sum.Add(sum, big.NewInt(int64(row[c.Field].Int)))
	}
	if c.Kind == api.YSum {
		fits := sum.Cmp(big.NewInt(-1<<63)) >= 0 && sum.Cmp(big.NewInt(1<<63-1)) <= 0
		return api.Cell{Kind: api.CInt, Int: int(sum.Int64())}, fits
	}
	for _, x := range cells {
		utmost := true
		for _, y := range cells {
			if c.Kind == api.YMin && below(y, x) || c.Kind == api.YMax && below(x, y) {
				utmost = false
			}
		}
		if utmost {
			return x, true
		}
	}
	return api.Cell{}, true
}

// ranks sorts a list by going through it again and again: an item goes ahead of another only if it must.
func ranks[T any](list []T, ahead func(a, b T) bool) []T {
	out := slices.Clone(list)
	for i := range out {
		for j := i; j > 0 && ahead(out[j], out[j-1]); j-- {
			out[j], out[j-1] = out[j-1], out[j]
		}
	}
	return out
}

// secondGroups is the rows, gathered as the query says.
func secondGroups(q api.Query, list rows) []rows {
	var out []rows
	if len(q.Group) == 0 && q.Cols[0].Kind != api.YField {
		return []rows{list}
	}
	for _, row := range list {
		joins := func(g rows) bool {
			for _, f := range q.Group {
				if g[0][f] != row[f] {
					return false
				}
			}
			return len(q.Group) > 0
		}
		if i := slices.IndexFunc(out, joins); i >= 0 {
			out[i] = append(out[i], row)
		} else {
			out = append(out, rows{row})
		}
	}
	return ranks(out, func(a, b rows) bool {
		for _, f := range q.Group {
			if a[0][f] != b[0][f] {
				return below(a[0][f], b[0][f])
			}
		}
		return false
	})
}

// secondRun is the second reading of 20.5.
func secondRun(q api.Query, recs ...api.Record) (api.Table, api.Errno) {
	if e := secondCheck(q); e != api.OK {
		return api.Table{}, e
	}
	for _, r := range recs {
		if e := record.Check(r); e != api.OK {
			return api.Table{}, e
		}
	}
	var list rows
	for _, row := range secondRows(q.From, recs) {
		if secondHolds(q.Where, row) {
			list = append(list, row)
		}
	}
	type line struct{ told, keys []api.Cell }
	var lines []line
	total := false
	cell := func(c api.Column, g rows) api.Cell {
		x, fits := secondCell(c, g)
		total = total || !fits
		return x
	}
	for _, g := range secondGroups(q, list) {
		var l line
		for _, c := range q.Cols {
			l.told = append(l.told, cell(c, g))
		}
		for _, k := range q.Order {
			l.keys = append(l.keys, cell(k.Col, g))
		}
		lines = append(lines, l)
	}
	if total {
		return api.Table{}, api.ErrTotal
	}
	lines = ranks(lines, func(a, b line) bool {
		for i, k := range q.Order {
			if a.keys[i] != b.keys[i] {
				return below(a.keys[i], b.keys[i]) != k.Desc
			}
		}
		return false
	})
	var out api.Table
	for _, c := range q.Cols {
		out.Names = append(out.Names, strings.ReplaceAll(strings.Join(columnTokens(c), ""), callParen, "("))
	}
	for i, l := range lines {
		if i >= q.Offset && (q.Limit == -1 || i-q.Offset < q.Limit) {
			out.Rows = append(out.Rows, l.told)
		}
	}
	return out, api.OK
}

// secondExplain is the second reading of 20.6, of a query that Check takes.
func secondExplain(q api.Query) string {
	field := []string{"", "saga", "id"}[q.From]
	found := "scan"
	var look func(e api.Expr)
	look = func(e api.Expr) {
		if e.Kind == api.XEq && e.Field == field && e.Cells[0].Int > 0 && found == "scan" {
			found = fmt.Sprint("lookup ", e.Cells[0].Int)
		}
		if e.Kind == api.XAnd {
			for _, p := range e.Parts {
				look(p)
			}
		}
	}
	look(q.Where)
	return found
}
