package query

import (
	"maps"
	"slices"

	"annals/api"
	"annals/replay"
)

// The words of records' kinds and of sagas' phases; of 0, which neither has, the empty text.
var (
	kinds  = [...]string{"", "begin", "start", "done", "fail", "undo", "undone", "end"}
	phases = [...]string{"", "running", "undoing", "whole", "undone"}
)

// row is one row of a source. It tells the cell of a field, or none if the source has no such field.
type row interface {
	cell(field string) api.Cell
}

func number(n int) api.Cell { return api.Cell{Kind: api.CInt, Int: n} }

func letters(s string) api.Cell { return api.Cell{Kind: api.CText, Text: s} }

func truth(b bool) api.Cell {
	c := api.Cell{Kind: api.CBool}
	if b {
		c.Int = 1
	}
	return c
}

// recordRow has the record's data as a text that is made once, however often it is asked for.
type recordRow struct {
	api.Record
	data string
}

func (r *recordRow) cell(field string) api.Cell {
	switch field {
	case "v":
		return number(r.V)
	case "saga":
		return number(r.Saga)
	case "step":
		return number(r.Step)
	case "try":
		return number(r.Try)
	case "at":
		return number(r.At)
	case "last":
		return number(r.Last)
	case "code":
		return number(r.Code)
	case "count":
		return number(r.Count)
	case "pivot":
		return number(r.Pivot)
	case "kind":
		return letters(kinds[r.Kind])
	case "name":
		return letters(r.Name)
	case "data":
		return letters(r.data)
	}
	return api.Cell{}
}

// sagaRow has the saga's bytes as texts, as a recordRow has.
type sagaRow struct {
	api.Saga
	input, fail string
}

func (s *sagaRow) cell(field string) api.Cell {
	switch field {
	case "id":
		return number(s.ID)
	case "count":
		return number(s.Count)
	case "pivot":
		return number(s.Pivot)
	case "begun":
		return number(s.Begun)
	case "at":
		return number(s.At)
	case "next":
		return number(s.Next)
	case "tries":
		return number(s.Tries)
	case "outs":
		return number(len(s.Outs))
	case "undos":
		return number(len(s.Undos))
	case "fail_step":
		return number(s.FailStep)
	case "fail_code":
		return number(s.FailCode)
	case "name":
		return letters(s.Name)
	case "phase":
		return letters(phases[s.Phase])
	case "input":
		return letters(s.input)
	case "fail":
		return letters(s.fail)
	case "flight":
		return truth(s.Flight)
	}
	return api.Cell{}
}

// kindOf is the kind of cells that a source has in a field, or CNone if it has no such field. A row of nothing tells it, so that no second list of fields has to agree with the rows.
func kindOf(from int, field string) int {
	if from == api.FromRecords {
		return (&recordRow{}).cell(field).Kind
	}
	return (&sagaRow{}).cell(field).Kind
}

// rowsOf is all rows of a source, of valid records.
func rowsOf(from int, recs []api.Record) []row {
	if from == api.FromRecords {
		return recordRows(recs)
	}
	return sagaRows(recs)
}

func recordRows(recs []api.Record) []row {
	rows := make([]row, 0, len(recs))
	for _, r := range recs {
		rows = append(rows, &recordRow{r, string(r.Data)})
	}
	return rows
}

func sagaRows(recs []api.Record) []row {
	own := map[int][]api.Record{} // by saga
	for _, r := range recs {
		own[r.Saga] = append(own[r.Saga], r)
	}
	var rows []row
	for _, id := range slices.Sorted(maps.Keys(own)) {
		state, illegal := replay.Fold(own[id]...)
		if illegal < 0 {
			s := state.Sagas[0]
			rows = append(rows, &sagaRow{s, string(s.Input), string(s.Fail)})
		}
	}
	return rows
}
