package query_test

import (
	"math"
	"math/rand"
	"slices"
	"strings"
	"sync"
	"testing"

	"annals/api"
	"annals/query"
)

// room is a list with all its spare room.
func room[T any](list []T) []T { return list[:cap(list)] }

// spare is a list with spare room behind it that is not zero.
func spare[T any](list []T, behind T) []T {
	whole := append(slices.Clone(list), behind, behind)
	return whole[: len(list) : len(list)+2]
}

// scribble writes into a list, and behind its end.
func scribble[T any](list []T, what T) {
	for i := range room(list) {
		room(list)[i] = what
	}
}

func roomyCond(e api.Expr) api.Expr {
	e.Cells = spare(e.Cells, api.Cell{Kind: 77})
	parts := []api.Expr{}
	for _, p := range e.Parts {
		parts = append(parts, roomyCond(p))
	}
	e.Parts = spare(parts, api.Expr{Kind: 77})
	return e
}

func roomyQuery(q api.Query) api.Query {
	q.Where, q.Group, q.Cols, q.Order = roomyCond(q.Where), spare(q.Group, "spare"), spare(q.Cols, api.Column{Kind: 77}), spare(q.Order, api.Key{Col: api.Column{Kind: 77}})
	return q
}

func roomyRecords(recs []api.Record) []api.Record {
	out := spare(recs, api.Record{Kind: 77})
	for i := range out {
		out[i].Data = spare(out[i].Data, '!')
	}
	return out
}

// wholeCond is a condition with all the spare room of its lists.
func wholeCond(e api.Expr) api.Expr {
	e.Cells = room(e.Cells)
	var parts []api.Expr
	for _, p := range room(e.Parts) {
		parts = append(parts, wholeCond(p))
	}
	e.Parts = parts
	return e
}

// sightOf is all that was handed in, the spare room too, as a text.
func sightOf(q api.Query, recs []api.Record) string {
	q.Where, q.Group, q.Cols, q.Order = wholeCond(q.Where), room(q.Group), room(q.Cols), room(q.Order)
	out := tell(q)
	for _, r := range room(recs) {
		r.Data = room(r.Data)
		out += tell(r)
	}
	return out
}

// scribbleCond writes into all lists of a condition.
func scribbleCond(e api.Expr) {
	for _, p := range e.Parts {
		scribbleCond(p)
	}
	scribble(e.Cells, api.Cell{Kind: 99})
	scribble(e.Parts, api.Expr{Kind: 99})
}

func scribbleQuery(q api.Query) {
	scribbleCond(q.Where)
	scribble(q.Group, "scribbled")
	scribble(q.Cols, api.Column{Kind: 99})
	scribble(q.Order, api.Key{Col: api.Column{Kind: 99}})
}

// Promise 20.13: what is handed in is not changed, nor the spare room behind it, and answers share no memory with it.
func TestGivenStaysAsItIs(t *testing.T) {
	r := rand.New(rand.NewSource(20131))
	for range 2000 {
		q, recs := drawQuery(r), drawLog(r, 15)
		want, e := secondRun(q, recs...)
		if e != api.OK {
			continue
		}
		given, list := roomyQuery(q), roomyRecords(recs)
		was := sightOf(given, list)
		table, e := query.Run(given, list...)
		text, e2 := query.Print(given)
		explained, e3 := query.Explain(given)
		if e != api.OK || e2 != api.OK || e3 != api.OK || query.Check(given) != api.OK || sightOf(given, list) != was {
			t.Fatalf("%+v: %d, %d, %d, or something is changed", q, e, e2, e3)
		}
		again, _ := query.Run(given, list...)
		for _, row := range table.Rows {
			scribble(row, api.Cell{Kind: 99})
		}
		scribble(table.Rows, []api.Cell{{Kind: 99}})
		scribble(table.Names, "scribbled")
		if sightOf(given, list) != was {
			t.Fatalf("%+v: writing into an answer changes what was given", q)
		}
		scribbleQuery(given)
		for _, rec := range list {
			scribble(rec.Data, '#')
		}
		scribble(list, api.Record{Kind: 99})
		if !same(again, want) || text != secondPrint(q) || explained != secondExplain(q) {
			t.Fatalf("%+v: writing into what was given changes an answer", q)
		}
	}
}

// memory is one list of an answer: how to write into it, and what is in it, its spare room too, but nothing of the lists within it.
type memory struct {
	write func()
	see   func() string
}

func memoryOf[T any](list []T, what T, shallow func(T) any) memory {
	return memory{func() { scribble(list, what) }, func() string {
		var out []any
		for _, x := range room(list) {
			out = append(out, shallow(x))
		}
		return tell(out)
	}}
}

func itself[T any](x T) any { return x }

func queryMemory(q api.Query) []memory {
	out := []memory{memoryOf(q.Group, "x", itself), memoryOf(q.Cols, api.Column{Kind: 9}, itself), memoryOf(q.Order, api.Key{Desc: true, Col: api.Column{Kind: 9}}, itself)}
	parts(&q.Where, func(e *api.Expr) {
		out = append(out, memoryOf(e.Cells, api.Cell{Kind: 9}, itself), memoryOf(e.Parts, api.Expr{Kind: 9}, func(p api.Expr) any { return []any{p.Kind, p.Field, len(p.Cells), len(p.Parts)} }))
	})
	return out
}

func tableMemory(t api.Table) []memory {
	out := []memory{memoryOf(t.Names, "x", itself), memoryOf(t.Rows, nil, func(row []api.Cell) any { return len(row) })}
	for _, row := range t.Rows {
		out = append(out, memoryOf(row, api.Cell{Kind: 9}, itself))
	}
	return out
}

// apart holds that writing into one list changes no other.
func apart(t *testing.T, what string, lists []memory) {
	t.Helper()
	for i, one := range lists {
		var was []string
		for _, l := range lists {
			was = append(was, l.see())
		}
		one.write()
		for j, l := range lists {
			if j != i && l.see() != was[j] {
				t.Errorf("%s: writing into list %d changes list %d: %s, not %s", what, i, j, l.see(), was[j])
			}
		}
	}
}

// Promise 20.13: no two lists of an answer share memory, spare room too, nor do those of two answers.
func TestAnswersAreTheirOwn(t *testing.T) {
	text := `from records where at in (1, 2, 3) and (kind = "a" or kind in ("b", "c", "d") or not data starts "x") and v = 3 group by kind, at, v select kind, count(), at order by kind desc, count(), at limit 5 offset 1`
	apart(t, text, slices.Concat(queryMemory(parsed(t, text)), queryMemory(parsed(t, text))))
	_, s := opened(t, 64, exampleLog()...)
	for _, text := range []string{"from records select kind, at, data", "from records group by kind, at select kind, count(), at order by at", "from sagas select id, name", "from records where saga = 5 select data", "from records select count()", "from records select at limit 2 offset 1"} {
		var lists []memory
		for range 2 {
			ran, e := query.Run(parsed(t, text), exampleLog()...)
			asked, err := query.On(s, text)
			if e != api.OK || err != nil {
				t.Fatalf("%s: %d, %v", text, e, err)
			}
			lists = slices.Concat(lists, tableMemory(ran), tableMemory(asked))
		}
		apart(t, text, lists)
	}
	if got, err := query.On(s, "from sagas select id, name"); err != nil || written(got) != `5 "buy"; 7 "pay"` {
		t.Errorf("%s, %v", written(got), err)
	}
}

// Promise 20.13: nothing is kept from call to call: calls side by side answer as calls one behind the other.
func TestSideBySide(t *testing.T) {
	r := rand.New(rand.NewSource(20133))
	_, s := opened(t, 64, exampleLog()...)
	type question struct {
		q     api.Query
		text  string
		recs  []api.Record
		want  api.Table
		wantE api.Errno
	}
	var all []question
	for range 100 {
		q, recs := drawQuery(r), drawLog(r, 15)
		want, e := secondRun(q, recs...)
		all = append(all, question{q, secondPrint(q), recs, want, e})
	}
	var group sync.WaitGroup
	for w := range 8 {
		group.Go(func() {
			for n := range all {
				c := all[(n*7+w)%len(all)]
				q, e, _ := query.Parse(c.text)
				if e != api.OK || !same(q, c.q) {
					t.Errorf("worker %d: %s: %d", w, c.text, e)
				}
				if got, e := query.Run(q, c.recs...); e != c.wantE || !same(got, c.want) {
					t.Errorf("worker %d: %s: %+v, %d", w, c.text, got, e)
				}
				if _, e, at := query.Parse("from records select at, count()"); e != api.ErrGroup || at != 24 {
					t.Errorf("worker %d: %d, %d", w, e, at)
				}
			}
		})
	}
	group.Wait()
	if got, err := query.On(s, "from sagas select id"); err != nil || written(got) != "5; 7" {
		t.Errorf("%+v, %v", got, err)
	}
}

// drawOddCond is a condition of any values at all.
func drawOddCond(r *rand.Rand, deep int) api.Expr {
	odd := func() int { return pick(r, math.MinInt, -1, 0, 1, 2, 3, 7, 10, 11, 12, 13, 14, 77, math.MaxInt) }
	e := api.Expr{Kind: odd(), Field: pick(r, "", "at", "kind", "flight", "id", "saga", "\xff")}
	for range r.Intn(3) {
		e.Cells = append(e.Cells, api.Cell{Kind: odd(), Int: odd(), Text: pick(r, "", "a")})
	}
	for range r.Intn(3) {
		if deep > 0 {
			e.Parts = append(e.Parts, drawOddCond(r, deep-1))
		}
	}
	return e
}

// Promise 20.13: no call panics or runs on, whatever it is given.
func TestAnythingIsTaken(t *testing.T) {
	r := rand.New(rand.NewSource(20134))
	odd := func() int { return pick(r, math.MinInt, -2, -1, 0, 0, 1, 1, 2, 2, 3, 4, 5, math.MaxInt) }
	column := func() api.Column {
		return api.Column{Kind: odd(), Field: pick(r, "", "at", "kind", "flight", "id", "\xff", "name")}
	}
	for range 40000 {
		q := api.Query{From: pick(r, 1, 1, 2, 2, odd()), Limit: odd(), Offset: odd()}
		if r.Intn(2) == 0 {
			q.Where = drawOddCond(r, 3)
		}
		for range r.Intn(3) {
			q.Group = append(q.Group, column().Field)
		}
		for range r.Intn(3) {
			q.Cols = append(q.Cols, column())
			q.Order = append(q.Order, api.Key{Col: column(), Desc: r.Intn(2) == 0})
		}
		holdCheck(t, q)
		if r.Intn(4) == 0 {
			rec := api.Record{V: odd(), Kind: odd(), Saga: odd(), Step: odd(), Try: odd(), At: odd(), Last: odd(), Code: odd(), Count: odd(), Pivot: odd(), Name: pick(r, "", "a", "\xff"), Data: make([]byte, pick(r, 0, 1, 16385))}
			holdRun(t, q, append(exampleLog(), rec)...)
		}
	}
	great := api.Query{From: 1, Group: make([]string, 1<<20), Cols: make([]api.Column, 1<<20), Order: make([]api.Key, 1<<20)}
	great.Where = api.Expr{Kind: api.XOr, Parts: make([]api.Expr, 1<<20)}
	if e := query.Check(great); e != api.ErrItems {
		t.Errorf("a great query: %d", e)
	}
	// As wide and as deep as may be.
	wide := atIs(1)
	for n, kind := range []int{api.XAnd, api.XOr, api.XAnd} {
		wide = joined(kind, slices.Repeat([]api.Expr{wide}, []int{64, 64, 16}[n])...)
	}
	q := plain()
	q.Where = wide
	if got, e := query.Run(q, exampleLog()...); e != api.OK || written(got) != "1" {
		t.Errorf("a wide query: %s, %d", written(got), e)
	}
	text, e := query.Print(q)
	if e != api.OK || strings.Count(text, "at = 1") != 65536 || !strings.HasPrefix(text, "from records where (at = 1 and at = 1 and") {
		t.Errorf("a wide query's text: %d bytes, %d", len(text), e)
	}
	if x, e := query.Explain(q); x != "scan" || e != api.OK {
		t.Error(x, e)
	}
}
