package query_test

import (
	"math"
	"strings"
	"testing"

	"annals/api"
	"annals/query"
)

func parsed(t *testing.T, s string) api.Query {
	t.Helper()
	q, e, at := query.Parse(s)
	if e != api.OK || at != 0 {
		t.Fatalf("Parse(%q): %d, %d", s, e, at)
	}
	return q
}

// Promises 20.3, 20.4, 20.6: what is printed and explained of texts; the chapter's examples are the first.
func TestPrintAndExplain(t *testing.T) {
	for _, c := range []struct{ text, want, explain string }{
		{`from sagas where ((id = 7)) and (flight or not (next<1 and at>2)) select id order by id asc offset 0`, `from sagas where id = 7 and (flight or not (next < 1 and at > 2)) select id order by id`, "lookup 7"},
		{`from sagas where id = 7 or id = 5 select id`, "", "scan"},
		{`from records where saga = 0 select at`, "", "scan"},
		{`from records where not saga = 5 select at`, "", "scan"},
		{`from records select at`, "", "scan"},
		{"from\nrecords  select\tat,kind", "from records select at, kind", "scan"},
		{`from records select count( ),sum (at),min( kind ) , max(at)`, "from records select count(), sum(at), min(kind), max(at)", "scan"},
		{`from records where at in(1,-2,3)and kind in("a","b")select at`, `from records where at in (1, -2, 3) and kind in ("a", "b") select at`, "scan"},
		{`from records where kind starts "a" or data contains "\xff\u{ad}\n" select at`, "", "scan"},
		{`from sagas where flight=true or flight!=false select id`, "from sagas where flight = true or flight != false select id", "scan"},
		{`from records where at = 1 and at != 2 and at < 3 and at <= 4 and at > 5 and at >= -6 select at`, "", "scan"},
		{`from records where ((at = 1) and ((at = 2))) and at = 3 select at`, "from records where (at = 1 and at = 2) and at = 3 select at", "scan"},
		{`from records where at = 1 and (at = 2 and at = 3) select at`, "", "scan"},
		{`from records where at = 1 or (at = 2 or at = 3) select at`, "", "scan"},
		{`from records where at = 1 or (at = 2 and at = 3) select at`, "from records where at = 1 or at = 2 and at = 3 select at", "scan"},
		{`from records where (at = 1 or at = 2) and at = 3 select at`, "", "scan"},
		{`from records where (not (at = 1)) and not (not (at = 2)) select at`, "from records where not at = 1 and not not at = 2 select at", "scan"},
		{`from records where not (at = 1 and at = 2) or not (at = 1 or at = 2) select at`, "", "scan"},
		{`from records group by kind,at select kind,count()order by count()asc,kind desc,at`, "from records group by kind, at select kind, count() order by count(), kind desc, at", "scan"},
		{`from records select at limit 0 offset 0`, "from records select at limit 0", "scan"},
		{`from records select at limit 9223372036854775807 offset 9223372036854775807`, "", "scan"},
		{`from records select at offset 1`, "", "scan"},
		// One saga by its form.
		{`from records where saga = 5 select at`, "", "lookup 5"},
		{`from records where saga = 9223372036854775807 select at`, "", "lookup 9223372036854775807"},
		{`from records where saga = 1 select at`, "", "lookup 1"},
		{`from records where saga = -5 select at`, "", "scan"},
		{`from records where saga in (5) select at`, "", "scan"},
		{`from records where saga >= 5 and saga <= 5 select at`, "", "scan"},
		{`from records where saga != 5 select at`, "", "scan"},
		{`from records where at = 5 select at`, "", "scan"},
		{`from records where at = 1 and (saga = 4 and (step = 0 or step = 1)) and saga = 6 select at`, "", "lookup 4"},
		{`from records where saga = 0 and saga = 6 and saga = 4 select at`, "", "lookup 6"},
		{`from records where (at = 1 and (at = 2 and saga = 3)) and saga = 4 select at`, "", "lookup 3"},
		{`from records where at = 1 and (saga = 3 or saga = 4) select at`, "", "scan"},
		{`from records where at = 1 and (saga = 3 or saga = 4) and saga = 3 select at`, "", "lookup 3"},
		{`from records where saga = 3 or at = 1 and saga = 3 select at`, "", "scan"},
		{`from records where not not saga = 3 select at`, "", "scan"},
		{`from records where not (saga = 3 and at = 1) select at`, "", "scan"},
		{`from records where (saga = 3) select count()`, "from records where saga = 3 select count()", "lookup 3"},
		{`from sagas where count = 3 and id = 4 select id`, "", "lookup 4"},
		{`from sagas where id = 0 select id`, "", "scan"},
		{`from sagas where not id = 1 and flight select id`, "", "scan"},
	} {
		q := parsed(t, c.text)
		want := c.want
		if want == "" {
			want = c.text
		}
		s, e := query.Print(q)
		x, e2 := query.Explain(q)
		if s != want || e != api.OK || x != c.explain || e2 != api.OK {
			t.Errorf("%s: Print %q, %d, Explain %q, %d", c.text, s, e, x, e2)
		}
		if secondExplain(q) != c.explain {
			t.Errorf("%s: the second reading says %s", c.text, secondExplain(q))
		}
		back(t, q)
	}
}

// Promise 20.3: a text above MaxScript is printed all the same.
func TestPrintLong(t *testing.T) {
	q := plain()
	q.Where = api.Expr{Kind: api.XEq, Field: "data", Cells: []api.Cell{letters(strings.Repeat("\xff", 40000))}}
	s, e := query.Print(q)
	if want := `from records where data = "` + strings.Repeat(`\xff`, 40000) + `" select at`; s != want || e != api.OK {
		t.Errorf("a long text: %d bytes, %d", len(s), e)
	}
	if _, e, at := query.Parse(s); e != api.ErrLong || at != 65536 {
		t.Errorf("it is read: %d, %d", e, at)
	}
	q.Where.Cells[0].Text = "x"
	q.Limit, q.Offset = math.MaxInt, math.MaxInt
	back(t, q)
}

// Promise 20.4: two queries have two texts.
func TestTwoQueriesTwoTexts(t *testing.T) {
	seen := map[string]string{}
	conds := []api.Expr{{}, atIs(1), atIs(-1), joined(api.XNot, atIs(1)), joined(api.XNot, joined(api.XNot, atIs(1))), {Kind: api.XIn, Field: "at", Cells: []api.Cell{number(1)}}, {Kind: api.XEq, Field: "data", Cells: []api.Cell{letters("1")}}, {Kind: api.XEq, Field: "data", Cells: []api.Cell{letters("1\" and at = 1")}}}
	for _, k := range []int{api.XAnd, api.XOr} {
		for _, in := range []int{api.XAnd, api.XOr} {
			pair := joined(in, atIs(2), atIs(3))
			conds = append(conds, joined(k, atIs(1), pair), joined(k, pair, atIs(1)), joined(api.XNot, joined(k, atIs(1), pair)), joined(k, joined(api.XNot, atIs(1)), pair), joined(k, atIs(1), joined(api.XNot, pair)), joined(k, pair, pair))
		}
		conds = append(conds, joined(k, atIs(1), atIs(2), atIs(3)), joined(k, atIs(1), atIs(2)), joined(api.XNot, joined(k, atIs(1), atIs(2))), joined(k, joined(api.XNot, atIs(1)), atIs(2)))
	}
	for _, e := range conds {
		for _, limit := range []int{-1, 0, 1} {
			for _, offset := range []int{0, 1} {
				for _, order := range [][]api.Key{nil, {{Col: api.Column{Field: "at"}}}, {{Col: api.Column{Field: "at"}, Desc: true}}, {{Col: api.Column{Field: "at"}, Desc: true}, {Col: api.Column{Field: "v"}}}} {
					q := api.Query{From: 1, Where: e, Cols: []api.Column{{Field: "at"}}, Order: order, Limit: limit, Offset: offset}
					s, errno := query.Print(q)
					if other, known := seen[s]; errno != api.OK || known {
						t.Fatalf("%s: %d, %s and %s", s, errno, other, tell(q))
					}
					seen[s] = tell(q)
					back(t, q)
				}
			}
		}
	}
}
