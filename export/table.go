package export

import "annals/api"

// The words of a saga's phases and of a record's kinds, from 1 on.
var (
	phases = [...]string{"running", "undoing", "whole", "undone"}
	kinds  = [...]string{"begin", "start", "done", "fail", "undo", "undone", "end"}
)

func phaseWord(n int) string { return phases[n-1] }

func kindWord(n int) string { return kinds[n-1] }

// sheet is a state whose sagas are told already, or not yet read.
type sheet struct {
	count int
	sagas []api.Value
}

func sheetMembers() []member[sheet] {
	return []member[sheet]{
		integer("count", func(s *sheet) *int { return &s.count }),
		values("sagas", func(s *sheet) *[]api.Value { return &s.sagas }),
	}
}

func sagaMembers() []member[api.Saga] {
	return []member[api.Saga]{
		integer("at", func(s *api.Saga) *int { return &s.At }),
		integer("begun", func(s *api.Saga) *int { return &s.Begun }),
		integer("count", func(s *api.Saga) *int { return &s.Count }),
		data("fail", func(s *api.Saga) *[]byte { return &s.Fail }),
		integer("fail_code", func(s *api.Saga) *int { return &s.FailCode }),
		integer("fail_step", func(s *api.Saga) *int { return &s.FailStep }),
		flag("flight", func(s *api.Saga) *bool { return &s.Flight }),
		integer("id", func(s *api.Saga) *int { return &s.ID }),
		data("input", func(s *api.Saga) *[]byte { return &s.Input }),
		text("name", func(s *api.Saga) *string { return &s.Name }),
		integer("next", func(s *api.Saga) *int { return &s.Next }),
		dataList("outs", func(s *api.Saga) *[][]byte { return &s.Outs }),
		word("phase", len(phases), phaseWord, func(s *api.Saga) *int { return &s.Phase }),
		integer("pivot", func(s *api.Saga) *int { return &s.Pivot }),
		integer("tries", func(s *api.Saga) *int { return &s.Tries }),
		dataList("undos", func(s *api.Saga) *[][]byte { return &s.Undos }),
	}
}

func recordMembers() []member[api.Record] {
	return []member[api.Record]{
		unlessZero(integer("at", func(r *api.Record) *int { return &r.At })),
		unlessZero(integer("code", func(r *api.Record) *int { return &r.Code })),
		unlessZero(integer("count", func(r *api.Record) *int { return &r.Count })),
		unlessZero(data("data", func(r *api.Record) *[]byte { return &r.Data })),
		word("kind", len(kinds), kindWord, func(r *api.Record) *int { return &r.Kind }),
		unlessZero(integer("last", func(r *api.Record) *int { return &r.Last })),
		unlessZero(text("name", func(r *api.Record) *string { return &r.Name })),
		unlessZero(integer("pivot", func(r *api.Record) *int { return &r.Pivot })),
		integer("saga", func(r *api.Record) *int { return &r.Saga }),
		unlessZero(integer("step", func(r *api.Record) *int { return &r.Step })),
		unlessZero(integer("try", func(r *api.Record) *int { return &r.Try })),
		integer("v", func(r *api.Record) *int { return &r.V }),
	}
}
