package query_test

import (
	"math"
	"math/rand"
	"slices"
	"testing"

	"annals/api"
	"annals/query"
)

// rowsTold is the rows that a query tells.
func rowsTold(t *testing.T, q api.Query, recs []api.Record) [][]api.Cell {
	t.Helper()
	got, e := query.Run(q, recs...)
	if e != api.OK {
		t.Fatalf("Run(%+v) is refused: %d", q, e)
	}
	return got.Rows
}

// numbered is records each of which has its own At, so that a row is known again.
func numbered(recs []api.Record) []api.Record {
	out := slices.Clone(recs)
	for i := range out {
		if out[i].V > 1 {
			out[i].At = i + 1
		}
	}
	return out
}

// everything is a query that tells all of the rows of which a condition holds.
func everything(from int, e api.Expr) api.Query {
	q := api.Query{From: from, Where: e, Limit: -1}
	for _, f := range allFields(from) {
		q.Cols = append(q.Cols, api.Column{Field: f})
	}
	return q
}

// sorted is rows in an order that their cells alone give.
func sorted(rows [][]api.Cell) []string {
	var out []string
	for _, r := range rows {
		out = append(out, tell(r))
	}
	slices.Sort(out)
	return out
}

// kept is the records of which a condition holds, one by one.
func kept(t *testing.T, e api.Expr, recs []api.Record) []api.Record {
	var out []api.Record
	for _, r := range recs {
		if len(rowsTold(t, everything(api.FromRecords, e), []api.Record{r})) == 1 {
			out = append(out, r)
		}
	}
	return out
}

// Promise 20.10: a condition and its not part the rows; an and is its second part among the first's rows; the order of parts does not matter.
func TestConditions(t *testing.T) {
	t.Parallel()
	r := rand.New(rand.NewSource(2010))
	for range 500 {
		recs := numbered(drawLog(r, 25))
		from := 1 + r.Intn(2)
		a, b, c := drawCond(r, from, 2), drawCond(r, from, 2), drawCond(r, from, 1)
		tellAll := func(e api.Expr) [][]api.Cell { return rowsTold(t, everything(from, e), recs) }
		all := tellAll(api.Expr{})
		with, without := tellAll(a), tellAll(joined(api.XNot, a))
		if len(with)+len(without) != len(all) || !same(sorted(slices.Concat(with, without)), sorted(all)) {
			t.Fatalf("%+v: %d rows and %d rows are not %d", a, len(with), len(without), len(all))
		}
		if !same(tellAll(joined(api.XNot, joined(api.XNot, a))), with) {
			t.Fatalf("%+v is not its twofold not", a)
		}
		both := tellAll(joined(api.XAnd, a, b))
		if from == api.FromRecords {
			if among := rowsTold(t, everything(from, b), kept(t, a, recs)); !same(both, among) {
				t.Fatalf("%+v and %+v: %+v, not %+v", a, b, both, among)
			}
		}
		for _, k := range []int{api.XAnd, api.XOr} {
			one := tellAll(joined(k, a, b, c))
			for _, other := range []api.Expr{joined(k, c, b, a), joined(k, b, a, c), joined(k, joined(k, a, b), c), joined(k, a, joined(k, c, b)), joined(k, a, a, b, c, b)} {
				if !same(tellAll(other), one) {
					t.Fatalf("%+v and %+v tell other rows", joined(k, a, b, c), other)
				}
			}
			turned := joined(api.XNot, joined(api.XAnd+api.XOr-k, joined(api.XNot, a), joined(api.XNot, b), joined(api.XNot, c)))
			if !same(tellAll(turned), one) {
				t.Fatalf("%+v and %+v tell other rows", joined(k, a, b, c), turned)
			}
		}
	}
}

// Promise 20.11: ordering changes no row and loses none, and what is bounded is a part of what is not.
func TestOrderAndBounds(t *testing.T) {
	t.Parallel()
	r := rand.New(rand.NewSource(2011))
	for range 500 {
		q, recs := drawQuery(r), drawLog(r, 25)
		q.Limit, q.Offset = -1, 0
		if _, e := query.Run(q, recs...); e != api.OK {
			continue
		}
		all := rowsTold(t, q, recs)
		plain := q
		plain.Order = nil
		if !same(sorted(rowsTold(t, plain, recs)), sorted(all)) {
			t.Fatalf("%+v: ordering changes rows", q)
		}
		if len(q.Order) > 0 {
			once := q
			once.Cols = nil
			for _, k := range q.Order {
				once.Cols = append(once.Cols, k.Col)
			}
			rows := rowsTold(t, once, recs)
			for i, row := range rows {
				if i > 0 && !rises(rows[i-1], row, q.Order) {
					t.Fatalf("%+v: row %d is not in its place", q, i)
				}
			}
		}
		for _, offset := range []int{0, 1, 2, len(all) - 1, len(all), len(all) + 1, math.MaxInt} {
			for _, limit := range []int{-1, 0, 1, 2, len(all) - 1, len(all), len(all) + 1, math.MaxInt} {
				part := q
				part.Limit, part.Offset = max(limit, -1), max(offset, 0)
				want := all[min(part.Offset, len(all)):]
				if part.Limit >= 0 {
					want = want[:min(part.Limit, len(want))]
				}
				if got := rowsTold(t, part, recs); !same(got, want) {
					t.Fatalf("%+v: %+v, not %+v", part, got, want)
				}
			}
		}
	}
}

// rises tells whether a row may stand ahead of another by these keys, of which the rows are the cells.
func rises(a, b []api.Cell, keys []api.Key) bool {
	for i, k := range keys {
		if a[i] != b[i] {
			return below(a[i], b[i]) != k.Desc
		}
	}
	return true
}

// Promise 20.11: rows that agree in all keys stay as they stood, rising and falling.
func TestOrderIsStable(t *testing.T) {
	r := rand.New(rand.NewSource(20112))
	for range 40 {
		var recs []api.Record
		for i := range 200 {
			recs = append(recs, api.Record{V: 3, Kind: api.KFail, Saga: 1 + r.Intn(3), Step: r.Intn(2), At: i, Data: []byte(pick(r, "a", "b", "ab"))})
		}
		keys := pick(r, []string{"saga"}, []string{"data"}, []string{"data", "step"}, []string{"step", "saga"}, []string{"kind"})
		q := api.Query{From: 1, Limit: -1, Cols: []api.Column{{Field: "at"}}}
		want := slices.Clone(recs)
		for _, f := range slices.Backward(keys) {
			desc := r.Intn(2) == 0
			q.Order = slices.Insert(q.Order, 0, api.Key{Col: api.Column{Field: f}, Desc: desc})
			slices.SortStableFunc(want, func(a, b api.Record) int {
				x, y := secondRows(1, []api.Record{a})[0][f], secondRows(1, []api.Record{b})[0][f]
				switch {
				case x == y:
					return 0
				case below(x, y) != desc:
					return -1
				}
				return 1
			})
		}
		for i, row := range rowsTold(t, q, recs) {
			if row[0].Int != want[i].At {
				t.Fatalf("%+v: row %d is %d, not %d", q.Order, i, row[0].Int, want[i].At)
			}
		}
	}
}

// Promise 20.12: groups part the rows: counts and sums make those of all, and a group's row is what is told of its rows without a Group.
func TestGroups(t *testing.T) {
	t.Parallel()
	r := rand.New(rand.NewSource(2012))
	groups := 0
	for range 2000 {
		recs := drawLog(r, 30)
		q := drawQuery(r)
		q.Limit, q.Offset, q.Order = -1, 0, nil
		if len(q.Group) == 0 {
			q.Group = []string{pick(r, allFields(q.From)...)}
		}
		sum := pick(r, fieldsOf[q.From][api.CInt]...)
		if sum == "at" || sum == "begun" || sum == "code" || sum == "fail_code" || sum == "saga" || sum == "id" {
			sum = "count" // the others may be too great for one sum
		}
		reckoned := []api.Column{{Kind: api.YCount}, {Kind: api.YSum, Field: sum}, {Kind: api.YMin, Field: "name"}, {Kind: api.YMax, Field: "at"}}
		q.Cols = nil
		for _, f := range q.Group {
			q.Cols = append(q.Cols, api.Column{Field: f})
		}
		q.Cols = append(q.Cols, reckoned...)
		rows := rowsTold(t, q, recs)
		whole := q
		whole.Group, whole.Cols = nil, reckoned
		all := rowsTold(t, whole, recs)[0]
		n := len(q.Group)
		count, total := 0, 0
		for i, row := range rows {
			count += row[n].Int
			total += row[n+1].Int
			if i > 0 && !rises(rows[i-1][:n], row[:n], make([]api.Key, n)) || i > 0 && same(rows[i-1][:n], row[:n]) {
				t.Fatalf("%+v: group %d does not rise", q, i)
			}
			one := whole
			one.Where = joined(api.XAnd, slices.Repeat([]api.Expr{{Kind: api.XIn, Field: "at", Cells: []api.Cell{number(0)}}}, 1+n)...)
			one.Where.Parts[0] = q.Where
			if q.Where.Kind == api.XNone {
				one.Where.Parts[0] = api.Expr{Kind: api.XGe, Field: "at", Cells: []api.Cell{number(math.MinInt)}}
			}
			for j, f := range q.Group {
				one.Where.Parts[1+j] = api.Expr{Kind: api.XEq, Field: f, Cells: []api.Cell{row[j]}}
			}
			if alone := rowsTold(t, one, recs); !same(alone, [][]api.Cell{row[n:]}) {
				t.Fatalf("%+v: the group %+v by itself is %+v", q, row, alone)
			}
			groups++
		}
		if count != all[0].Int || total != all[1].Int {
			t.Fatalf("%+v: %d rows with the sum %d are not %+v", q, count, total, all)
		}
	}
	if groups < 2000 {
		t.Errorf("only %d groups", groups)
	}
}
