package query_test

import (
	"fmt"
	"math"
	"math/rand"
	"reflect"
	"slices"
	"strings"
	"testing"

	"annals/api"
	"annals/lift"
	"annals/query"
	"annals/record"
	"annals/saga"
)

// pick is one of several.
func pick[T any](r *rand.Rand, list ...T) T { return list[r.Intn(len(list))] }

// tell is all that an answer holds, as a text; nil and empty lists are the same.
func tell(v any) string { return fmt.Sprintf("%+v", v) }

// same tells whether two answers hold the same; most that do can be told fast.
func same[T any](a, b T) bool { return reflect.DeepEqual(a, b) || tell(a) == tell(b) }

// The fields of the two sources, by the kind of their cells, as the chapter lists them.
var fieldsOf = map[int]map[int][]string{
	api.FromRecords: {
		api.CInt:  {"v", "saga", "step", "try", "at", "last", "code", "count", "pivot"},
		api.CText: {"kind", "name", "data"},
	},
	api.FromSagas: {
		api.CInt:  {"id", "count", "pivot", "begun", "at", "next", "tries", "outs", "undos", "fail_step", "fail_code"},
		api.CText: {"name", "phase", "input", "fail"},
		api.CBool: {"flight"},
	},
}

// typeOf is the kind of a field's cells; CNone, if the source has no such field.
func typeOf(from int, field string) int {
	for kind, names := range fieldsOf[from] {
		if slices.Contains(names, field) {
			return kind
		}
	}
	return api.CNone
}

func allFields(from int) []string {
	return slices.Concat(fieldsOf[from][api.CInt], fieldsOf[from][api.CText], fieldsOf[from][api.CBool])
}

// texts are what texts are drawn from: names and words of the log among them, and what literals must write in other ways.
var texts = []string{"", "a", "buy", "buy", "pay", "begin", "done", "fail", "running", "undone", "und", "o", "\xff", "\u00fc\u00ad", "a\"\\\n", "\x00", "true", "and", "b", "ok"}

func drawData(r *rand.Rand) []byte { return []byte(pick(r, texts...)) }

func drawAt(r *rand.Rand) int { return pick(r, 0, 1, 2, 3, 4, 9, math.MaxInt) }

func drawBegin(r *rand.Rand, id int) api.Record {
	n := 1 + r.Intn(3)
	return api.Record{V: 3, Kind: api.KBegin, Saga: id, At: drawAt(r), Count: n, Pivot: r.Intn(2) * r.Intn(n+1), Name: pick(r, "buy", "pay", "b\u00fccher", "a"), Data: drawData(r)}
}

// drawNext is a record of version 3 that may come next in a saga that has not ended.
func drawNext(r *rand.Rand, s api.Saga) api.Record {
	out := api.Record{V: 3, Kind: pick(r, saga.Allowed(s)...), Saga: s.ID, At: drawAt(r), Step: s.Next}
	if s.Phase == api.Undoing {
		out.Step--
	}
	switch out.Kind {
	case api.KStart, api.KUndo:
		out.Try = s.Tries + 1
	case api.KDone, api.KUndone:
		out.Data = drawData(r)
	case api.KFail:
		out.Data, out.Code = drawData(r), pick(r, 0, 1, -1, 9, math.MinInt, math.MaxInt)
		if s.Phase == api.Running && (s.Pivot == 0 || s.Next < s.Pivot) {
			out.Last = r.Intn(2)
		}
	case api.KEnd:
		out.Step, out.Code = 0, r.Intn(2)*s.Phase
	}
	return out
}

// lowered is a record in any version that can say what it says.
func lowered(r *rand.Rand, rec api.Record) api.Record {
	low, e := lift.Down(rec, 1+r.Intn(3))
	if e != api.OK {
		return rec
	}
	return low
}

// drawLog is up to n valid records of mingled sagas, of all versions; some of the sagas are not legal.
func drawLog(r *rand.Rand, n int) []api.Record {
	sagas := map[int]api.Saga{}
	var out []api.Record
	for range n {
		id := pick(r, 1, 2, 5, 7, 9, math.MaxInt)
		s, there := sagas[id]
		switch {
		case !there:
			rec := lowered(r, drawBegin(r, id))
			sagas[id], _ = saga.Begin(rec)
			out = append(out, rec)
		case !saga.Finished(s):
			rec := lowered(r, drawNext(r, s))
			sagas[id], _ = saga.Apply(s, rec)
			out = append(out, rec)
		}
		if r.Intn(40) == 0 {
			out = append(out, api.Record{V: 3, Kind: pick(r, 2, 5), Saga: pick(r, 2, 3), Step: r.Intn(3), Try: 1 + r.Intn(2), At: drawAt(r)})
		}
	}
	return out
}

func drawCell(r *rand.Rand, kind int) api.Cell {
	switch kind {
	case api.CInt:
		return api.Cell{Kind: kind, Int: pick(r, 0, 0, 1, 1, 2, 3, 4, 5, 7, 9, -1, math.MinInt, math.MaxInt)}
	case api.CText:
		return api.Cell{Kind: kind, Text: pick(r, texts...)}
	}
	return api.Cell{Kind: kind, Int: r.Intn(2)}
}

func drawTest(r *rand.Rand, from int) api.Expr {
	e := api.Expr{Field: pick(r, allFields(from)...)}
	kind := typeOf(from, e.Field)
	switch kind {
	case api.CInt:
		e.Kind = 1 + r.Intn(7)
	case api.CText:
		e.Kind = 1 + r.Intn(9)
	default:
		e.Kind = pick(r, api.XEq, api.XNe, api.XIs)
	}
	n := 1
	if e.Kind == api.XIn {
		n = 1 + r.Intn(4)
	} else if e.Kind == api.XIs {
		n = 0
	}
	for range n {
		e.Cells = append(e.Cells, drawCell(r, kind))
	}
	return e
}

// drawCond is a condition that Check takes, with parts nested up to that deep.
func drawCond(r *rand.Rand, from, deep int) api.Expr {
	if deep == 0 || r.Intn(3) == 0 {
		return drawTest(r, from)
	}
	e := api.Expr{Kind: pick(r, api.XNot, api.XAnd, api.XOr)}
	n := 1
	if e.Kind != api.XNot {
		n = 2 + r.Intn(2)
	}
	for range n {
		e.Parts = append(e.Parts, drawCond(r, from, deep-1))
	}
	return e
}

func drawReckoned(r *rand.Rand, from int) api.Column {
	c := api.Column{Kind: 1 + r.Intn(4)}
	switch c.Kind {
	case api.YSum:
		c.Field = pick(r, fieldsOf[from][api.CInt]...)
	case api.YMin, api.YMax:
		c.Field = pick(r, slices.Concat(fieldsOf[from][api.CInt], fieldsOf[from][api.CText])...)
	}
	return c
}

// drawQuery is a query that Check takes.
func drawQuery(r *rand.Rand) api.Query {
	q := api.Query{From: 1 + r.Intn(2), Limit: pick(r, -1, -1, -1, 0, 1, 3, math.MaxInt), Offset: pick(r, 0, 0, 0, 1, 2, math.MaxInt)}
	if r.Intn(3) > 0 {
		q.Where = drawCond(r, q.From, r.Intn(4))
	}
	plain := r.Intn(2) == 0
	column := func() api.Column {
		if len(q.Group) > 0 {
			plain = r.Intn(2) == 0
		}
		switch {
		case !plain:
			return drawReckoned(r, q.From)
		case len(q.Group) > 0:
			return api.Column{Field: pick(r, q.Group...)}
		}
		return api.Column{Field: pick(r, allFields(q.From)...)}
	}
	if r.Intn(2) == 0 {
		fields := allFields(q.From)
		r.Shuffle(len(fields), func(i, j int) { fields[i], fields[j] = fields[j], fields[i] })
		q.Group = fields[:1+r.Intn(3)]
	}
	for range 1 + r.Intn(3) {
		q.Cols = append(q.Cols, column())
	}
	for range r.Intn(3) {
		q.Order = append(q.Order, api.Key{Col: column(), Desc: r.Intn(2) == 0})
	}
	return q
}

// parts calls f with each part of a condition, itself too.
func parts(e *api.Expr, f func(e *api.Expr)) {
	f(e)
	for i := range e.Parts {
		parts(&e.Parts[i], f)
	}
}

func drawColumnOdd(r *rand.Rand) api.Column {
	return api.Column{Kind: pick(r, -1, 0, 0, 1, 2, 3, 4, 5), Field: pick(r, "", "at", "id", "saga", "kind", "name", "flight", "x", "count")}
}

// meddle changes something in a query, so that Check may refuse it.
func meddle(r *rand.Rand, q *api.Query) {
	switch r.Intn(10) {
	case 0:
		q.From = pick(r, -1, 0, 1, 2, 3)
	case 1:
		q.Limit, q.Offset = pick(r, -2, -1, math.MinInt, 0), pick(r, -1, 0, math.MinInt)
	case 2:
		q.Group = slices.Concat(q.Group, pick(r, []string{"x"}, []string{"at"}, []string{"at", "at"}, make([]string, 65)))
	case 3:
		q.Cols = pick(r, nil, slices.Concat(q.Cols, []api.Column{drawColumnOdd(r)}), slices.Concat([]api.Column{drawColumnOdd(r)}, q.Cols), slices.Repeat(q.Cols, 65))
	case 4:
		q.Order = pick(r, slices.Concat(q.Order, []api.Key{{Col: drawColumnOdd(r)}}), make([]api.Key, 65), slices.Repeat([]api.Key{{Col: q.Cols[0]}}, pick(r, 64, 65)))
	default:
		meddleCond(r, &q.Where)
	}
}

// meddleCond changes something at one place of a condition.
func meddleCond(r *rand.Rand, whole *api.Expr) {
	var all []*api.Expr
	parts(whole, func(e *api.Expr) { all = append(all, e) })
	e := pick(r, all...)
	switch r.Intn(8) {
	case 0:
		e.Kind = r.Intn(17) - 1
	case 1:
		e.Field = pick(r, "", "x", "at", "kind", "flight", "count")
	case 2:
		e.Cells = slices.Concat(e.Cells, []api.Cell{drawCell(r, 1+r.Intn(3))})
	case 3:
		e.Cells = slices.Repeat(e.Cells, pick(r, 0, 64, 65))
	case 4:
		e.Cells = slices.Clone(e.Cells)
		for i := range e.Cells {
			e.Cells[i] = api.Cell{Kind: r.Intn(6) - 1, Int: r.Intn(4) - 1, Text: pick(r, "", "", "a")}
		}
	case 5:
		e.Parts = slices.Concat(e.Parts, []api.Expr{{Kind: pick(r, 0, api.XIs), Field: "flight"}})
	case 6:
		if len(e.Parts) > 0 {
			e.Parts = slices.Repeat(e.Parts, pick(r, 0, 2, 22, 65))
		}
	case 7:
		for range pick(r, 1, 15, 16, 17) {
			*e = api.Expr{Kind: api.XNot, Parts: []api.Expr{*e}}
		}
	}
}

// Of the drawn logs and queries enough are what they are meant to be.
func TestDrawn(t *testing.T) {
	r := rand.New(rand.NewSource(20))
	versions, phases, illegal, refused := map[int]int{}, map[string]int{}, 0, map[api.Errno]int{}
	for range 300 {
		recs := drawLog(r, 60)
		for _, rec := range recs {
			if e := record.Check(rec); e != api.OK {
				t.Fatalf("%+v: %d", rec, e)
			}
			versions[rec.V]++
		}
		rows := secondRows(api.FromSagas, recs)
		for _, row := range rows {
			phases[row["phase"].Text]++
		}
		illegal += len(ids(recs)) - len(rows)
	}
	for range 5000 {
		q := drawQuery(r)
		if e := query.Check(q); e != api.OK {
			t.Fatalf("%+v: %d", q, e)
		}
		meddle(r, &q)
		refused[query.Check(q)]++
	}
	for _, n := range []int{versions[1], versions[2], versions[3], phases["running"], phases["undoing"], phases["whole"], phases["undone"], illegal} {
		if n < 50 {
			t.Errorf("versions %v, phases %v, %d illegal sagas", versions, phases, illegal)
		}
	}
	for e := api.ErrQuery; e <= api.ErrBounds; e++ {
		if e != api.ErrTotal && refused[e] < 30 {
			t.Errorf("error %d comes only %d times", e, refused[e])
		}
	}
}

// deep is a text with n parentheses around a test.
func deep(n int) string {
	return "from records where " + strings.Repeat("(", n) + "at = 1" + strings.Repeat(")", n) + " select at"
}
