package query_test

import (
	"math"
	"math/rand"
	"slices"
	"strings"
	"testing"

	"annals/api"
	"annals/query"
)

func plain() api.Query {
	return api.Query{From: api.FromRecords, Cols: []api.Column{{Field: "at"}}, Limit: -1}
}

func number(n int) api.Cell { return api.Cell{Kind: api.CInt, Int: n} }

func letters(s string) api.Cell { return api.Cell{Kind: api.CText, Text: s} }

func truth(n int) api.Cell { return api.Cell{Kind: api.CBool, Int: n} }

func atIs(n int) api.Expr { return api.Expr{Kind: api.XEq, Field: "at", Cells: []api.Cell{number(n)}} }

func joined(kind int, parts ...api.Expr) api.Expr { return api.Expr{Kind: kind, Parts: parts} }

// within puts a condition into n others of that kind, each around the one ahead of it.
func within(n, kind int, e api.Expr) api.Expr {
	for range n {
		e = joined(kind, e)
		if kind != api.XNot {
			e.Parts = append(e.Parts, atIs(9))
		}
	}
	return e
}

// holdCheck holds Check against the second reading, and the calls that hand its error on.
func holdCheck(t *testing.T, q api.Query) api.Errno {
	t.Helper()
	e := query.Check(q)
	if want := secondCheck(q); e != want {
		t.Fatalf("Check(%.400s) = %d, not %d", tell(q), e, want)
	}
	s, printed := query.Print(q)
	x, explained := query.Explain(q)
	table, ran := query.Run(q)
	if printed != e || explained != e || ran != e && ran != api.ErrTotal || (s == "") != (e != api.OK) || (x == "") != (e != api.OK) || ran != api.OK && !same(table, api.Table{}) {
		t.Fatalf("%.400s: Print %q %d, Explain %q %d, Run %+v %d, not %d", tell(q), s, printed, x, explained, table, ran, e)
	}
	return e
}

// Promise 20.1: one fault at a time.
func TestCheck(t *testing.T) {
	test := func(kind int, field string, cells ...api.Cell) func(*api.Query) {
		return func(q *api.Query) { q.Where = api.Expr{Kind: kind, Field: field, Cells: cells} }
	}
	where := func(e api.Expr) func(*api.Query) { return func(q *api.Query) { q.Where = e } }
	cols := func(c ...api.Column) func(*api.Query) { return func(q *api.Query) { q.Cols = c } }
	order := func(c ...api.Column) func(*api.Query) {
		return func(q *api.Query) {
			for _, c := range c {
				q.Order = append(q.Order, api.Key{Col: c})
			}
		}
	}
	group := func(cols api.Column, fields ...string) func(*api.Query) {
		return func(q *api.Query) { q.Group, q.Cols = fields, []api.Column{cols} }
	}
	sagas := func(turn func(*api.Query)) func(*api.Query) {
		return func(q *api.Query) { q.From = api.FromSagas; turn(q) }
	}
	at := api.Column{Field: "at"}
	for i, c := range []struct {
		turn func(*api.Query)
		e    api.Errno
	}{
		{func(q *api.Query) {}, api.OK}, {func(q *api.Query) { q.From = 2 }, api.OK}, {func(q *api.Query) { *q = api.Query{} }, api.ErrSource}, {func(q *api.Query) { q.From = 3 }, api.ErrSource}, {func(q *api.Query) { q.From = -1 }, api.ErrSource}, {func(q *api.Query) { q.From = math.MinInt }, api.ErrSource},
		// The form of a part.
		{test(14, "at"), api.ErrQuery}, {test(-1, "at"), api.ErrQuery}, {test(math.MaxInt, "at"), api.ErrQuery}, {test(math.MinInt, "at"), api.ErrQuery}, {test(0, "at"), api.ErrQuery}, {test(0, "", number(1)), api.ErrQuery}, {where(joined(0, atIs(1))), api.ErrQuery}, {where(joined(api.XNot, api.Expr{})), api.ErrQuery}, {where(joined(api.XAnd, atIs(1), api.Expr{})), api.ErrQuery},
		{test(api.XEq, "at"), api.ErrQuery}, {test(api.XEq, "at", number(1), number(1)), api.ErrQuery}, {test(api.XIn, "at"), api.ErrQuery}, {test(api.XIs, "at", truth(1)), api.ErrQuery}, {test(api.XStarts, "kind"), api.ErrQuery}, {test(api.XHas, "kind", letters("a"), letters("b")), api.ErrQuery}, {where(api.Expr{Kind: api.XEq, Field: "at", Cells: []api.Cell{number(1)}, Parts: []api.Expr{atIs(1)}}), api.ErrQuery}, {where(api.Expr{Kind: api.XIs, Field: "flight", Parts: []api.Expr{atIs(1)}}), api.ErrQuery}, {where(api.Expr{Kind: api.XIn, Field: "at", Cells: []api.Cell{number(1)}, Parts: []api.Expr{atIs(1)}}), api.ErrQuery},
		{where(joined(api.XNot)), api.ErrQuery}, {where(joined(api.XNot, atIs(1), atIs(2))), api.ErrQuery}, {where(joined(api.XAnd)), api.ErrQuery}, {where(joined(api.XAnd, atIs(1))), api.ErrQuery}, {where(joined(api.XOr, atIs(1))), api.ErrQuery}, {where(api.Expr{Kind: api.XNot, Field: "at", Parts: []api.Expr{atIs(1)}}), api.ErrQuery}, {where(api.Expr{Kind: api.XOr, Field: "at", Parts: []api.Expr{atIs(1), atIs(2)}}), api.ErrQuery}, {where(api.Expr{Kind: api.XAnd, Cells: []api.Cell{number(1)}, Parts: []api.Expr{atIs(1), atIs(2)}}), api.ErrQuery},
		// How many.
		{test(api.XIn, "at", slices.Repeat([]api.Cell{number(1)}, 64)...), api.OK}, {test(api.XIn, "at", slices.Repeat([]api.Cell{number(1)}, 65)...), api.ErrItems}, {test(api.XIn, "x", make([]api.Cell, 65)...), api.ErrItems}, {test(api.XEq, "at", slices.Repeat([]api.Cell{number(1)}, 65)...), api.ErrQuery}, {where(joined(api.XAnd, slices.Repeat([]api.Expr{atIs(1)}, 64)...)), api.OK}, {where(joined(api.XAnd, slices.Repeat([]api.Expr{atIs(1)}, 65)...)), api.ErrItems}, {where(joined(api.XOr, slices.Repeat([]api.Expr{atIs(1)}, 65)...)), api.ErrItems}, {where(joined(api.XNot, slices.Repeat([]api.Expr{atIs(1)}, 65)...)), api.ErrQuery}, {where(joined(api.XOr, make([]api.Expr, 65)...)), api.ErrItems},
		// Cells.
		{test(api.XEq, "at", api.Cell{}), api.ErrQuery}, {test(api.XEq, "at", api.Cell{Kind: 4}), api.ErrQuery}, {test(api.XEq, "at", api.Cell{Kind: -1}), api.ErrQuery}, {test(api.XEq, "at", api.Cell{Kind: 1, Int: 1, Text: "a"}), api.ErrQuery}, {test(api.XEq, "kind", api.Cell{Kind: 2, Int: 1, Text: "a"}), api.ErrQuery}, {sagas(test(api.XEq, "flight", truth(2))), api.ErrQuery}, {sagas(test(api.XEq, "flight", truth(-1))), api.ErrQuery}, {sagas(test(api.XEq, "flight", api.Cell{Kind: 3, Text: "a"})), api.ErrQuery}, {test(api.XIn, "at", number(1), number(2), api.Cell{}), api.ErrQuery}, {test(api.XEq, "x", api.Cell{}), api.ErrQuery}, {test(api.XEq, "", number(1)), api.ErrColumn},
		// Fields and types.
		{test(api.XEq, "x", number(1)), api.ErrColumn}, {test(api.XEq, "id", number(1)), api.ErrColumn}, {sagas(test(api.XEq, "saga", number(1))), api.ErrColumn}, {test(api.XIs, "flight"), api.ErrColumn}, {sagas(test(api.XIs, "flight")), api.OK}, {test(api.XIs, "at"), api.ErrType}, {test(api.XIs, "kind"), api.ErrType}, {test(api.XStarts, "at", number(1)), api.ErrType}, {test(api.XStarts, "at", letters("1")), api.ErrType}, {test(api.XHas, "kind", number(1)), api.ErrType}, {test(api.XHas, "kind", letters("")), api.OK}, {test(api.XIn, "at", number(1), letters("a")), api.ErrType}, {sagas(test(api.XIn, "flight", truth(1))), api.ErrType}, {sagas(test(api.XLt, "flight", truth(1))), api.ErrType}, {sagas(test(api.XNe, "flight", truth(0))), api.OK}, {test(api.XEq, "at", truth(1)), api.ErrType}, {sagas(test(api.XEq, "flight", number(1))), api.ErrType}, {test(api.XEq, "\xff", number(1)), api.ErrColumn}, {test(api.XEq, strings.Repeat("x", 1<<20), number(1)), api.ErrColumn},
		// The depth.
		{where(within(16, api.XNot, atIs(1))), api.OK}, {where(within(17, api.XNot, atIs(1))), api.ErrNest}, {where(within(17, api.XAnd, atIs(1))), api.OK}, {where(within(18, api.XAnd, atIs(1))), api.ErrNest}, {where(within(17, api.XOr, atIs(1))), api.OK}, {where(within(18, api.XOr, atIs(1))), api.ErrNest}, {where(within(17, api.XNot, api.Expr{Kind: 99})), api.ErrNest}, {where(within(16, api.XNot, api.Expr{Kind: 99})), api.ErrQuery}, {where(within(17, api.XNot, atIs(1))), api.ErrNest}, {where(within(15, api.XNot, joined(api.XAnd, atIs(1), atIs(2)))), api.OK}, {where(within(16, api.XNot, joined(api.XAnd, atIs(1), atIs(2)))), api.ErrNest}, {where(within(16, api.XNot, joined(api.XOr))), api.ErrQuery}, {where(within(16, api.XNot, joined(api.XOr, make([]api.Expr, 65)...))), api.ErrItems}, {where(joined(api.XOr, joined(api.XAnd, within(16, api.XNot, atIs(1)), atIs(2)), atIs(3))), api.OK}, {where(joined(api.XAnd, joined(api.XOr, within(16, api.XNot, atIs(1)), atIs(2)), atIs(3))), api.ErrNest},
		// The group.
		{group(at, "at"), api.OK}, {group(at, "at", "kind"), api.OK}, {group(at, "x"), api.ErrColumn}, {group(at, "at", ""), api.ErrColumn}, {group(at, "at", "at"), api.ErrGroup}, {group(at, "at", "kind", "at", "x"), api.ErrGroup}, {group(at, "x", "at", "at"), api.ErrColumn}, {group(at, slices.Repeat([]string{"x"}, 65)...), api.ErrItems}, {group(at, slices.Repeat([]string{"at"}, 64)...), api.ErrGroup}, {group(at, "kind"), api.ErrGroup}, {group(api.Column{Kind: 1}, "kind"), api.OK}, {group(api.Column{Kind: 3, Field: "at"}, "kind"), api.OK}, {sagas(group(api.Column{Field: "flight"}, "flight")), api.OK},
		// The columns.
		{cols(), api.ErrQuery}, {cols(slices.Repeat([]api.Column{at}, 64)...), api.OK}, {cols(slices.Repeat([]api.Column{at}, 65)...), api.ErrItems}, {cols(make([]api.Column, 65)...), api.ErrItems}, {cols(api.Column{Kind: 5, Field: "at"}), api.ErrQuery}, {cols(api.Column{Kind: -1, Field: "at"}), api.ErrQuery}, {cols(api.Column{Kind: 1, Field: "at"}), api.ErrQuery}, {cols(api.Column{Kind: 1}), api.OK}, {cols(api.Column{}), api.ErrColumn}, {cols(api.Column{Kind: 2}), api.ErrColumn}, {cols(api.Column{Kind: 3, Field: "x"}), api.ErrColumn}, {cols(api.Column{Kind: 2, Field: "kind"}), api.ErrType}, {cols(api.Column{Kind: 3, Field: "kind"}), api.OK}, {cols(api.Column{Kind: 4, Field: "kind"}), api.OK}, {cols(api.Column{Kind: 2, Field: "at"}), api.OK}, {sagas(cols(api.Column{Kind: 2, Field: "flight"})), api.ErrType}, {sagas(cols(api.Column{Kind: 3, Field: "flight"})), api.ErrType}, {sagas(cols(api.Column{Kind: 4, Field: "flight"})), api.ErrType}, {sagas(cols(api.Column{Field: "flight"})), api.OK},
		{cols(at, api.Column{Kind: 1}), api.ErrGroup}, {cols(api.Column{Kind: 1}, at), api.ErrGroup}, {cols(at, api.Column{Kind: 2, Field: "kind"}), api.ErrType}, {cols(at, api.Column{Kind: 2, Field: "x"}), api.ErrColumn}, {cols(at, api.Column{Kind: 9, Field: "x"}), api.ErrQuery}, {cols(api.Column{Kind: 1}, at, api.Column{Kind: 9}), api.ErrGroup},
		// The order.
		{order(at, at), api.OK}, {order(slices.Repeat([]api.Column{at}, 64)...), api.OK}, {order(slices.Repeat([]api.Column{{Kind: 7}}, 65)...), api.ErrItems}, {order(api.Column{Kind: 1}), api.ErrGroup}, {order(at, api.Column{Kind: 5}), api.ErrQuery}, {order(api.Column{Kind: 1, Field: "x"}), api.ErrQuery}, {order(api.Column{Field: "x"}), api.ErrColumn}, {order(api.Column{Kind: 2, Field: "kind"}), api.ErrType}, {func(q *api.Query) { group(api.Column{Kind: 1}, "kind")(q); order(at)(q) }, api.ErrGroup}, {func(q *api.Query) { group(api.Column{Kind: 1}, "kind")(q); order(api.Column{Field: "kind"})(q) }, api.OK}, {func(q *api.Query) { cols(api.Column{Kind: 1})(q); order(at)(q) }, api.ErrGroup},
		// The bounds.
		{func(q *api.Query) { q.Limit = -2 }, api.ErrBounds}, {func(q *api.Query) { q.Limit = math.MinInt }, api.ErrBounds}, {func(q *api.Query) { q.Offset = -1 }, api.ErrBounds}, {func(q *api.Query) { q.Limit, q.Offset = 0, 0 }, api.OK}, {func(q *api.Query) { q.Limit, q.Offset = math.MaxInt, math.MaxInt }, api.OK},
	} {
		q := plain()
		c.turn(&q)
		if e := holdCheck(t, q); e != c.e {
			t.Errorf("%d: Check(%.200s) = %d, not %d", i, tell(q), e, c.e)
		}
	}
}

// Promise 20.1: of two faults the first of the chapter's order decides.
func TestCheckOrder(t *testing.T) {
	faults := []struct {
		turn func(*api.Query)
		e    api.Errno
	}{
		{func(q *api.Query) { q.From = 0 }, api.ErrSource},
		{func(q *api.Query) { q.Where.Parts[0] = api.Expr{Kind: 77} }, api.ErrQuery},
		{func(q *api.Query) { q.Where.Parts[1].Cells = make([]api.Cell, 65) }, api.ErrItems},
		{func(q *api.Query) { q.Where.Parts[2].Cells[0].Text = "a" }, api.ErrQuery},
		{func(q *api.Query) { q.Where.Parts[3] = within(17, api.XNot, atIs(1)) }, api.ErrNest},
		{func(q *api.Query) { q.Where.Parts[4].Field = "x" }, api.ErrColumn},
		{func(q *api.Query) { q.Where.Parts[5].Field = "kind" }, api.ErrType},
		{func(q *api.Query) { q.Group[1] = "x" }, api.ErrColumn},
		{func(q *api.Query) { q.Group[2] = "kind" }, api.ErrGroup},
		{func(q *api.Query) { q.Cols[0] = api.Column{Kind: 9} }, api.ErrQuery},
		{func(q *api.Query) { q.Cols[1] = api.Column{Kind: 2, Field: "name"} }, api.ErrType},
		{func(q *api.Query) { q.Cols[2] = api.Column{Field: "data"} }, api.ErrGroup},
		{func(q *api.Query) { q.Order[0].Col.Field = "x" }, api.ErrColumn},
		{func(q *api.Query) { q.Order[1].Col.Field = "v" }, api.ErrGroup},
		{func(q *api.Query) { q.Offset = -1 }, api.ErrBounds},
	}
	sound := func() api.Query {
		q := api.Query{From: 1, Limit: -1, Group: []string{"kind", "name", "at"}}
		for i := range 6 {
			q.Where.Parts = append(q.Where.Parts, api.Expr{Kind: api.XIn, Field: "at", Cells: []api.Cell{number(i)}})
		}
		q.Where.Kind = api.XAnd
		for range 3 {
			q.Cols = append(q.Cols, api.Column{Field: "kind"})
			q.Order = append(q.Order, api.Key{Col: api.Column{Field: "kind"}})
		}
		return q
	}
	if e := holdCheck(t, sound()); e != api.OK {
		t.Fatal(e)
	}
	for i, a := range faults {
		for _, b := range faults[i:] {
			q := sound()
			b.turn(&q)
			a.turn(&q)
			if e := holdCheck(t, q); e != a.e {
				t.Errorf("Check(%+v) = %d, not %d", q, e, a.e)
			}
		}
	}
}

// Promise 20.1: a part is looked at ahead of what is within it, and what is within it ahead of what stands behind it.
func TestCheckGoesDown(t *testing.T) {
	bad := func(kind int) api.Expr { return api.Expr{Kind: kind} }
	column := api.Expr{Kind: api.XEq, Field: "x", Cells: []api.Cell{number(1)}}
	for i, c := range []struct {
		e    api.Expr
		want api.Errno
	}{
		{api.Expr{Kind: api.XAnd, Field: "x", Parts: []api.Expr{column, atIs(1)}}, api.ErrQuery},
		{joined(api.XAnd, column, bad(77)), api.ErrColumn},
		{joined(api.XAnd, bad(77), column), api.ErrQuery},
		{joined(api.XAnd, joined(api.XOr, atIs(1), column), bad(77)), api.ErrColumn},
		{joined(api.XAnd, joined(api.XOr, atIs(1), bad(77)), column), api.ErrQuery},
		{joined(api.XAnd, slices.Repeat([]api.Expr{column}, 65)...), api.ErrItems},
		{joined(api.XOr, within(17, api.XNot, column), bad(77)), api.ErrNest},
		{joined(api.XOr, within(16, api.XNot, column), bad(77)), api.ErrColumn},
		{joined(api.XOr, column, within(17, api.XNot, atIs(1))), api.ErrColumn},
	} {
		q := plain()
		q.Where = c.e
		if e := holdCheck(t, q); e != c.want {
			t.Errorf("%d: %d, not %d", i, e, c.want)
		}
	}
}

// Promise 20.1: drawn queries, with something changed in them.
func TestCheckDrawn(t *testing.T) {
	t.Parallel()
	r := rand.New(rand.NewSource(201))
	for range 15000 {
		q := drawQuery(r)
		for range 1 + r.Intn(3) {
			if len(q.Cols) > 0 {
				meddle(r, &q)
			}
		}
		if holdCheck(t, q) == api.OK {
			back(t, q)
		}
	}
}

// Promise 20.1: conditions in all ways of being nested: the depth is that of the text that is printed.
func TestDepth(t *testing.T) {
	t.Parallel()
	r := rand.New(rand.NewSource(2012))
	seen := map[api.Errno]int{}
	for range 1500 {
		q := plain()
		q.Where = atIs(1)
		var kinds []int
		for range 12 + r.Intn(16) {
			kinds = append(kinds, pick(r, api.XNot, api.XAnd, api.XOr))
		}
		for _, k := range kinds {
			q.Where = within(1, k, q.Where)
			if len(q.Where.Parts) == 2 && r.Intn(2) == 0 {
				slices.Reverse(q.Where.Parts)
			}
		}
		// The open parentheses and `not`s where the innermost test begins: all of the text ahead of it that is not closed.
		s := " " + strings.Join(tokensOf(q.Where), " ")
		ahead, _, _ := strings.Cut(s, "at = 1")
		open := strings.Count(ahead, "(") - strings.Count(ahead, ")") + strings.Count(ahead, "not ")
		want := api.OK
		if open > 16 {
			want = api.ErrNest
		}
		if e := holdCheck(t, q); e != want {
			t.Fatalf("%s: %d, not %d", s, e, want)
		}
		if want == api.OK {
			back(t, q)
		}
		seen[want]++
	}
	if seen[api.OK] < 200 || seen[api.ErrNest] < 200 {
		t.Errorf("so many of each: %v", seen)
	}
}
