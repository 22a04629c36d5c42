package console

import (
	"slices"

	"annals/api"
)

// record takes a record: its version, kind and saga, and then fields, as long as names follow.
func (r *reader) record() api.Record {
	var rec api.Record
	rec.V = r.number()
	rec.Kind = r.choice(kindOf)
	rec.Saga = r.number()
	var seen []string
	for r.sees(api.WName) {
		field := r.name()
		r.insist(!slices.Contains(seen, field))
		seen = append(seen, field)
		r.sign("=")
		r.value(&rec, field)
	}
	return rec
}

// records takes any number of records, none too, with signs between.
func (r *reader) records() []api.Record {
	if !r.more() {
		return nil
	}
	out := []api.Record{r.record()}
	for r.more() {
		r.sign(";")
		out = append(out, r.record())
	}
	return out
}

// value takes the value of a record's field.
func (r *reader) value(rec *api.Record, field string) {
	switch field {
	case "name":
		rec.Name = r.label()
	case "data":
		rec.Data = r.data()
	default:
		n := numberOf(rec, field)
		r.insist(n != nil)
		if n != nil {
			*n = r.number()
		}
	}
}

// label takes a name, or a literal in its place: so a record can be told whose name is none.
func (r *reader) label() string {
	if r.sees(api.WLiteral) {
		return r.literal()
	}
	return r.name()
}

// numberOf is where a record keeps a field that is a number; nil: there is no such field.
func numberOf(rec *api.Record, field string) *int {
	switch field {
	case "step":
		return &rec.Step
	case "try":
		return &rec.Try
	case "at":
		return &rec.At
	case "last":
		return &rec.Last
	case "code":
		return &rec.Code
	case "count":
		return &rec.Count
	case "pivot":
		return &rec.Pivot
	}
	return nil
}

// kindOf is the kind of a record by its name; 0: there is none.
func kindOf(name string) int {
	switch name {
	case "begin":
		return api.KBegin
	case "start":
		return api.KStart
	case "done":
		return api.KDone
	case "fail":
		return api.KFail
	case "undo":
		return api.KUndo
	case "undone":
		return api.KUndone
	case "end":
		return api.KEnd
	}
	return 0
}
