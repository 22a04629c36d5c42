package query

import (
	"math/big"
	"slices"

	"annals/api"
)

// group is the rows that one row of an answer tells of. It is empty only where all rows are one group and there is none.
type group []row

// answer is the table of a query that was checked, of records that are valid.
func answer(q api.Query, recs []api.Record) (api.Table, api.Errno) {
	groups := gathered(q, matching(q, recs))
	if !summable(q, groups) {
		return api.Table{}, api.ErrTotal
	}
	t := api.Table{Names: texts(q.Cols, columnText)}
	for _, g := range bounded(q, ordered(q.Order, groups)) {
		t.Rows = append(t.Rows, g.cells(q.Cols))
	}
	return t, api.OK
}

// matching is the rows of which the condition holds.
func matching(q api.Query, recs []api.Record) []row {
	cond := testOf(q.Where)
	var out []row
	for _, r := range rowsOf(q.From, recs) {
		if cond.holds(r) {
			out = append(out, r)
		}
	}
	return out
}

func gathered(q api.Query, rows []row) []group {
	switch {
	case len(q.Group) > 0:
		return byFields(q.Group, rows)
	case reckoned(q.Cols[0]):
		return []group{rows}
	}
	var out []group
	for i := range rows {
		out = append(out, rows[i:i+1])
	}
	return out
}

// byFields gathers rows that agree in all these fields, the groups by rising fields.
func byFields(fields []string, rows []row) []group {
	compare := func(a, b row) int {
		for _, f := range fields {
			if o := order(a.cell(f), b.cell(f)); o != 0 {
				return o
			}
		}
		return 0
	}
	slices.SortStableFunc(rows, compare)
	var out []group
	from := 0
	for i := range rows {
		if i+1 == len(rows) || compare(rows[i], rows[i+1]) != 0 {
			out = append(out, rows[from:i+1])
			from = i + 1
		}
	}
	return out
}

// summable tells whether an int holds each sum that is told or ordered by.
func summable(q api.Query, groups []group) bool {
	cols := slices.Clone(q.Cols)
	for _, k := range q.Order {
		cols = append(cols, k.Col)
	}
	for _, c := range cols {
		if c.Kind != api.YSum {
			continue
		}
		for _, g := range groups {
			if !g.sum(c.Field).IsInt64() {
				return false
			}
		}
	}
	return true
}

// placed is a group with what it is ordered by, so that this is reckoned once.
type placed struct {
	group
	keys []api.Cell
}

// ordered is the groups in the order of the keys.
func ordered(keys []api.Key, groups []group) []group {
	var cols []api.Column
	for _, k := range keys {
		cols = append(cols, k.Col)
	}
	var all []placed
	for _, g := range groups {
		all = append(all, placed{g, g.cells(cols)})
	}
	slices.SortStableFunc(all, func(a, b placed) int {
		for i, k := range keys {
			o := order(a.keys[i], b.keys[i])
			if k.Desc {
				o = -o
			}
			if o != 0 {
				return o
			}
		}
		return 0
	})
	var out []group
	for _, p := range all {
		out = append(out, p.group)
	}
	return out
}

// bounded is the groups behind the offset, up to the limit.
func bounded(q api.Query, groups []group) []group {
	groups = groups[min(q.Offset, len(groups)):]
	if q.Limit == noLimit {
		return groups
	}
	return groups[:min(q.Limit, len(groups))]
}

func (g group) cells(cols []api.Column) []api.Cell {
	out := make([]api.Cell, 0, len(cols))
	for _, c := range cols {
		out = append(out, g.cell(c))
	}
	return out
}

// cell is what a column tells of a group whose sums an int holds.
func (g group) cell(c api.Column) api.Cell {
	switch c.Kind {
	case api.YCount:
		return number(len(g))
	case api.YSum:
		return number(int(g.sum(c.Field).Int64()))
	case api.YMin:
		return g.utmost(c.Field, -1)
	case api.YMax:
		return g.utmost(c.Field, 1)
	}
	return g[0].cell(c.Field)
}

// sum may pass beyond the ints on its way, and come back.
func (g group) sum(field string) *big.Int {
	sum, one := new(big.Int), new(big.Int)
	for _, r := range g {
		sum.Add(sum, one.SetInt64(int64(r.cell(field).Int)))
	}
	return sum
}

// utmost is the first of the rows' cells that all others lie on the one side of: the least one for -1, the greatest for 1; none of no row.
func (g group) utmost(field string, side int) api.Cell {
	var out api.Cell
	for i, r := range g {
		if c := r.cell(field); i == 0 || order(c, out) == side {
			out = c
		}
	}
	return out
}
