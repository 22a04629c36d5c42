package query_test

import (
	"fmt"
	"math"
	"math/rand"
	"strings"
	"testing"

	"annals/api"
	"annals/query"
)

// exampleLog is the chapter's log L.
func exampleLog() []api.Record {
	return []api.Record{
		{V: 3, Kind: 1, Saga: 5, Count: 2, Name: "buy", At: 1}, {V: 3, Kind: 2, Saga: 5, Try: 1, At: 2}, {V: 3, Kind: 3, Saga: 5, At: 3, Data: []byte("ok")},
		{V: 3, Kind: 1, Saga: 7, Count: 1, Name: "pay", At: 4}, {V: 3, Kind: 2, Saga: 7, Try: 1, At: 5}, {V: 3, Kind: 4, Saga: 7, Last: 1, Code: 9, At: 6},
	}
}

// written is a table's rows as the chapter writes them.
func written(t api.Table) string {
	var rows []string
	for _, r := range t.Rows {
		var cells []string
		for _, c := range r {
			switch c.Kind {
			case api.CNone:
				cells = append(cells, "none")
			case api.CInt:
				cells = append(cells, fmt.Sprint(c.Int))
			case api.CText:
				cells = append(cells, fmt.Sprintf("%q", c.Text))
			default:
				cells = append(cells, fmt.Sprint(c.Int == 1))
			}
		}
		rows = append(rows, strings.Join(cells, " "))
	}
	return strings.Join(rows, "; ")
}

// holdRun holds Run against the second reading.
func holdRun(t *testing.T, q api.Query, recs ...api.Record) (api.Table, api.Errno) {
	t.Helper()
	got, e := query.Run(q, recs...)
	want, wantE := secondRun(q, recs...)
	if e != wantE || !same(got, want) {
		text, _ := query.Print(q)
		t.Fatalf("Run(%s, %+v) = %+v, %d, not %+v, %d", text, recs, got, e, want, wantE)
	}
	return got, e
}

func ask(t *testing.T, text, want string, recs ...api.Record) {
	t.Helper()
	if got, e := holdRun(t, parsed(t, text), recs...); e != api.OK || written(got) != want {
		t.Errorf("%s: %s, %d, not %s", text, written(got), e, want)
	}
}

// Promise 20.5: the chapter's examples, and others over its log.
func TestRunExamples(t *testing.T) {
	for _, c := range [][2]string{
		{`from records where saga = 5 and kind != "begin" select kind, at`, `"start" 2; "done" 3`},
		{`from records group by kind select kind, count(), max(at) order by count() desc, kind`, `"begin" 2 4; "start" 2 5; "done" 1 3; "fail" 1 6`},
		{`from records select count(), sum(at), min(kind)`, `6 21 "begin"`},
		{`from records where saga = 9 select min(at), count()`, `none 0`},
		{`from sagas where phase = "undoing" select id, fail_code`, `7 9`},
		{`from sagas where not flight and next >= 1 or name starts "p" select name`, `"buy"; "pay"`},
		{`from records where data contains "k" or at in (1, 6) select at order by at desc limit 2`, `6; 3`},
		{`from records select saga offset 4`, `7; 7`},
		{`from records where saga = 5 group by saga select saga limit 0`, ``},

		{`from records where saga = 9 select at`, ``},
		{`from records where saga = 9 select count(), sum(at), min(kind), max(kind), max(at), min(at)`, `0 0 none none none none`},
		{`from records where saga = 9 select count() offset 1`, ``},
		{`from records where saga = 9 select sum(at) order by max(at) desc limit 1`, `0`},
		{`from records where saga = 9 group by kind select count(), sum(at)`, ``},
		{`from records group by kind select kind`, `"begin"; "done"; "fail"; "start"`},
		{`from records group by saga, kind select kind, saga limit 3`, `"begin" 5; "done" 5; "start" 5`},
		{`from records group by kind, saga select kind, saga limit 3`, `"begin" 5; "begin" 7; "done" 5`},
		{`from records group by kind select count() order by sum(at)`, `1; 2; 1; 2`},
		{`from records group by kind select kind order by count()`, `"done"; "fail"; "begin"; "start"`},
		{`from records group by kind select kind order by count() desc`, `"begin"; "start"; "done"; "fail"`},
		{`from records select at order by saga desc`, `4; 5; 6; 1; 2; 3`},
		{`from records select at order by kind, at desc`, `4; 1; 3; 6; 5; 2`},
		{`from records select at order by v`, `1; 2; 3; 4; 5; 6`},
		{`from records select at order by v desc`, `1; 2; 3; 4; 5; 6`},
		{`from records select at limit 2 offset 3`, `4; 5`},
		{`from records select at limit 9223372036854775807 offset 5`, `6`},
		{`from records select at offset 6`, ``},
		{`from records select at offset 9223372036854775807`, ``},
		{`from records where name starts "" and name = "" select at`, `2; 3; 5; 6`},
		{`from records where kind starts "st" select at`, `2; 5`},
		{`from records where kind starts "start " select at`, ``},
		{`from records where kind contains "" select count()`, `6`},
		{`from records where kind contains "i" select at`, `1; 4; 6`},
		{`from records where kind < "done" select at`, `1; 4`},
		{`from records where kind <= "done" select at`, `1; 3; 4`},
		{`from records where kind > "done" select at`, `2; 5; 6`},
		{`from records where kind >= "done" select at`, `2; 3; 5; 6`},
		{`from records where kind < "start1" and kind > "star" select at`, `2; 5`},
		{`from records where at < 3 select at`, `1; 2`},
		{`from records where at <= 3 select at`, `1; 2; 3`},
		{`from records where at > 3 select at`, `4; 5; 6`},
		{`from records where at >= 3 select at`, `3; 4; 5; 6`},
		{`from records where at != 3 select at`, `1; 2; 4; 5; 6`},
		{`from records select v, saga, step, try, at, last, code, count, pivot, kind, name, data limit 1 offset 5`, `3 7 0 0 6 1 9 0 0 "fail" "" ""`},
		{`from records select v, saga, step, try, at, last, code, count, pivot, kind, name, data limit 1`, `3 5 0 0 1 0 0 2 0 "begin" "buy" ""`},
		{`from sagas select id, count, pivot, begun, at, next, tries, outs, undos, fail_step, fail_code, name, phase, input, fail, flight`, `5 2 0 1 3 1 0 1 0 0 0 "buy" "running" "" "" false; 7 1 0 4 6 0 0 0 0 0 9 "pay" "undoing" "" "" false`},
		{`from sagas select count(), sum(outs), max(name)`, `2 1 "pay"`},
		{`from sagas group by flight select flight, count(), min(id)`, `false 2 5`},
		{`from sagas where flight select id`, ``},
		{`from sagas where flight = false select id`, `5; 7`},
		{`from sagas where flight != false select id`, ``},
		{`from sagas select id order by id desc`, `7; 5`},
	} {
		ask(t, c[0], c[1], exampleLog()...)
	}
}

// Promise 20.5: the names are the columns' texts, also where no row is told; they and the rows are as wide as the columns.
func TestNames(t *testing.T) {
	q := parsed(t, "from records group by kind, at select at,count( ),sum(at),min( kind ),max(at),kind limit 0")
	for _, recs := range [][]api.Record{nil, exampleLog()} {
		got, e := holdRun(t, q, recs...)
		if want := []string{"at", "count()", "sum(at)", "min(kind)", "max(at)", "kind"}; e != api.OK || !same(got.Names, want) || len(got.Rows) != 0 {
			t.Errorf("%+v, %d", got, e)
		}
	}
	if got, e := holdRun(t, parsed(t, "from sagas select flight, flight"), exampleLog()...); e != api.OK || tell(got) != "{Names:[flight flight] Rows:[[{Kind:3 Int:0 Text:} {Kind:3 Int:0 Text:}] [{Kind:3 Int:0 Text:} {Kind:3 Int:0 Text:}]]}" {
		t.Errorf("%+v, %d", got, e)
	}
}

// Promise 20.5: of the errors that of Check comes first, then that of the first record that is not valid, whatever the query asks, then that of a sum.
func TestRunErrors(t *testing.T) {
	bad := exampleLog()
	bad[1].Saga, bad[4].V, bad[0].At, bad[3].At = 0, 9, math.MaxInt, math.MaxInt
	q := parsed(t, "from records where saga = 5 select sum(at) limit 0")
	if got, e := holdRun(t, q, bad...); e != api.ErrID || !same(got, api.Table{}) {
		t.Errorf("%+v, %d", got, e)
	}
	bad[1].Saga = 5
	for _, text := range []string{"from records where saga = 5 select at", "from sagas where id = 5 select id", "from records select at limit 0", "from sagas select count()"} {
		if got, e := holdRun(t, parsed(t, text), bad...); e != api.ErrVersion || !same(got, api.Table{}) {
			t.Errorf("%s: %+v, %d", text, got, e)
		}
	}
	q.Limit = -2
	if got, e := holdRun(t, q, bad...); e != api.ErrBounds || !same(got, api.Table{}) {
		t.Errorf("%+v, %d", got, e)
	}
}

// fails is failures with these codes, of sagas 1, 2, ..
func fails(codes ...int) []api.Record {
	var out []api.Record
	for i, c := range codes {
		out = append(out, api.Record{V: 3, Kind: api.KFail, Saga: 1 + i, Code: c})
	}
	return out
}

// Promise 20.5: a sum is told if an int holds it, whatever stands between; else it is ErrTotal, of any group, told or only ordered by, and behind any limit.
func TestTotals(t *testing.T) {
	most, least := math.MaxInt, math.MinInt
	for _, c := range []struct {
		codes []int
		want  string
	}{
		{[]int{most}, fmt.Sprint(most)}, {[]int{least}, fmt.Sprint(least)}, {[]int{most, 0}, fmt.Sprint(most)}, {[]int{most, 1}, ""}, {[]int{least, -1}, ""}, {[]int{most, 1, -1}, fmt.Sprint(most)}, {[]int{most, most, least, least}, "-2"}, {[]int{least, least, most, most, 2}, "0"}, {[]int{most, most}, ""}, {[]int{least, least}, ""}, {[]int{most, most, 2}, ""}, {[]int{least, least, least, least}, ""}, {[]int{most, most, most, most, 4}, ""}, {[]int{least, most}, "-1"}, {[]int{1, most, -2}, fmt.Sprint(most - 1)},
	} {
		recs := fails(c.codes...)
		got, e := holdRun(t, parsed(t, "from records select sum(code)"), recs...)
		if c.want == "" && (e != api.ErrTotal || !same(got, api.Table{})) || c.want != "" && (e != api.OK || written(got) != c.want) {
			t.Errorf("the sum of %v is %s, %d", c.codes, written(got), e)
		}
	}
	two := append(fails(1, most, most, 4), api.Record{V: 2, Kind: api.KEnd, Saga: 9})
	for _, c := range []struct {
		text string
		e    api.Errno
	}{
		{"from records group by kind select kind", api.OK},
		{"from records group by kind select max(code)", api.OK},
		{"from records group by kind select sum(code)", api.ErrTotal},
		{"from records group by kind select sum(code) limit 0", api.ErrTotal},
		{"from records group by kind select sum(code) order by kind limit 1", api.ErrTotal},
		{"from records group by kind select sum(code) order by kind desc limit 1", api.ErrTotal},
		{"from records group by kind select kind offset 5", api.OK},
		{"from records group by kind select sum(at) offset 5", api.OK},
		{"from records group by kind select sum(code) offset 5", api.ErrTotal},
		{"from records group by kind select kind order by kind, sum(code) desc", api.ErrTotal},
		{"from records group by kind select kind order by kind, sum(saga) desc", api.OK},
		{"from records select count() order by sum(code) limit 0", api.ErrTotal},
		{"from records where code < 5 select count(), sum(code)", api.OK},
		{"from records group by saga select saga, sum(code)", api.OK},
		{"from records select code order by code", api.OK},
	} {
		if got, e := holdRun(t, parsed(t, c.text), two...); e != c.e || e != api.OK && !same(got, api.Table{}) {
			t.Errorf("%s: %+v, %d", c.text, got, e)
		}
	}
}

// Promise 20.5: a saga is a row if its own records are legal, whatever the others are; of all versions, by rising id.
func TestSagaRows(t *testing.T) {
	l := exampleLog()
	mingled := []api.Record{
		{V: 1, Kind: 1, Saga: 9, Step: 1, Data: []byte("old")}, l[3], l[0], {V: 3, Kind: 2, Saga: 4, Try: 1}, l[1], l[4], {V: 1, Kind: 2, Saga: 9}, l[5], {V: 2, Kind: 3, Saga: 9, At: 8, Data: []byte("\xff")}, l[2],
		{V: 3, Kind: 7, Saga: 7, At: 9, Code: 2}, {V: 1, Kind: 7, Saga: 9}, {V: 3, Kind: 1, Saga: math.MaxInt, Count: 1, Name: "z"}, {V: 3, Kind: 1, Saga: 1, Count: 3, Pivot: 2, Name: "a", Data: []byte("in")}, {V: 3, Kind: 2, Saga: 1, Try: 1},
	}
	ask(t, "from sagas select id, phase, name, flight, tries", fmt.Sprintf(`1 "running" "a" true 1; 5 "running" "buy" false 0; 7 "undone" "pay" false 0; 9 "whole" "old" false 0; %d "running" "z" false 0`, math.MaxInt), mingled...)
	ask(t, "from sagas where flight select id, input, pivot, count", `1 "in" 2 3`, mingled...)
	ask(t, "from sagas group by flight select flight, count(), max(id) order by flight desc", fmt.Sprintf("true 1 1; false 4 %d", math.MaxInt), mingled...)
	ask(t, "from records where v < 3 select v, saga, step, kind, data", `1 9 1 "begin" "old"; 1 9 0 "start" ""; 2 9 0 "done" "\xff"; 1 9 0 "end" ""`, mingled...)
	// A record that may not come takes its whole saga away, and no other, wherever it stands.
	for _, wrong := range []api.Record{l[0], {V: 3, Kind: 7, Saga: 5}, {V: 3, Kind: 6, Saga: 5}} {
		for at := range len(l) + 1 {
			recs := append(append(append([]api.Record{}, l[:at]...), wrong), l[at:]...)
			if got, e := holdRun(t, parsed(t, "from sagas select id"), recs...); e != api.OK || written(got) != "7" && !(wrong.Kind == 1 && at == 0) {
				t.Errorf("%+v at %d: %s, %d", wrong, at, written(got), e)
			}
		}
	}
	ask(t, "from sagas select id", "")
	ask(t, "from sagas select count()", "0", api.Record{V: 3, Kind: 2, Saga: 4, Try: 1})
}

// Promise 20.5: drawn queries of drawn logs, held against the second reading.
func TestRunDrawn(t *testing.T) {
	t.Parallel()
	r := rand.New(rand.NewSource(205))
	rows, totals := 0, 0
	for range 6000 {
		q := drawQuery(r)
		got, e := holdRun(t, q, drawLog(r, r.Intn(30))...)
		if len(got.Rows) > 1 {
			rows++
		}
		if e == api.ErrTotal {
			totals++
		}
		if x, e := query.Explain(q); e != api.OK || x != secondExplain(q) {
			t.Fatalf("Explain(%+v) = %s, %d, not %s", q, x, e, secondExplain(q))
		}
	}
	if rows < 700 || totals < 50 {
		t.Errorf("%d answers with several rows, %d with a sum outside int", rows, totals)
	}
}

// Promise 20.5: each test of each field, with all cells around the values that are there.
func TestEachTest(t *testing.T) {
	t.Parallel()
	r := rand.New(rand.NewSource(2052))
	for range 6 {
		recs := drawLog(r, 40)
		for from := 1; from <= 2; from++ {
			for _, f := range allFields(from) {
				kind := typeOf(from, f)
				cells := []api.Cell{drawCell(r, kind)}
				for _, row := range secondRows(from, recs) {
					if r.Intn(4) == 0 {
						cells = append(cells, row[f])
					}
				}
				for _, x := range kindsOf[kind] {
					for _, c := range cells {
						e := api.Expr{Kind: x, Field: f, Cells: []api.Cell{c}}
						if x == api.XIs {
							e.Cells = nil
						} else if x == api.XIn {
							e.Cells = append(e.Cells, pick(r, cells...))
						}
						holdRun(t, api.Query{From: from, Where: e, Cols: []api.Column{{Field: f}, {Field: "at"}}, Limit: -1}, recs...)
					}
				}
			}
		}
	}
}

// Promise 20.5: many rows, many groups, 64 columns and keys.
func TestRunMuch(t *testing.T) {
	var recs []api.Record
	for i := range 20000 {
		recs = append(recs, api.Record{V: 3, Kind: api.KFail, Saga: 1 + i%5000, Code: i, At: i % 7, Data: []byte(fmt.Sprint(i % 100))})
	}
	got, e := query.Run(parsed(t, "from records group by saga select saga, count(), sum(code), min(data), max(data) order by sum(code) desc, saga limit 2 offset 1"), recs...)
	if want := `4999 4 49992 "98" "98"; 4998 4 49988 "97" "97"`; e != api.OK || written(got) != want {
		t.Errorf("%s, %d", written(got), e)
	}
	got, e = query.Run(parsed(t, "from records select code order by at desc, code desc limit 1"), recs...)
	if e != api.OK || written(got) != "19998" {
		t.Errorf("%s, %d", written(got), e)
	}
	wide := api.Query{From: 1, Limit: -1}
	for range 64 {
		wide.Cols = append(wide.Cols, api.Column{Field: "data"})
		wide.Order = append(wide.Order, api.Key{Col: api.Column{Field: "v"}})
	}
	got, e = query.Run(wide, recs...)
	if e != api.OK || len(got.Rows) != 20000 || len(got.Rows[19999]) != 64 || got.Rows[19999][63].Text != "99" {
		t.Errorf("%d rows, %d", len(got.Rows), e)
	}
}
