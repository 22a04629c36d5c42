package plan

import (
	"bytes"

	"annals/api"
	"annals/saga"
)

// version is the schema version of the records that answers make.
const version = 3

// fit tells why a saga is not one of the plan; OK, if it is.
func fit(p api.Plan, s api.Saga) api.Errno {
	if e := Check(p); e != api.OK {
		return e
	}
	if e := saga.Check(s); e != api.OK {
		return e
	}
	if s.Name != p.Name || s.Count != len(p.Steps) || s.Pivot != p.Pivot {
		return api.ErrFit
	}
	return api.OK
}

// inFlight tells why nobody is to answer for a saga; OK, if somebody is.
func inFlight(p api.Plan, s api.Saga) api.Errno {
	if e := fit(p, s); e != api.OK {
		return e
	}
	if !s.Flight {
		return api.ErrFlight
	}
	return api.OK
}

// onTurn is the step whose turn it is, or whose undoing's, and the name of who is to do it, of a saga that has more to do than to end.
func onTurn(p api.Plan, s api.Saga) (int, string) {
	if s.Phase == api.Running {
		return s.Next, p.Steps[s.Next].Do
	}
	return s.Next - 1, p.Steps[s.Next-1].Undo
}

// Next tells what comes next for a saga of the plan.
func Next(p api.Plan, s api.Saga) (api.Action, api.Errno) {
	if e := fit(p, s); e != api.OK {
		return api.Action{}, e
	}
	a := api.Action{Kind: deed(s), Saga: s.ID}
	switch a.Kind {
	case api.AStart, api.AUndo:
		a.Try = min(s.Tries+1, api.MaxTry)
	case api.AAsk, api.AAskUndo:
		a.Try = s.Tries
	default: // nobody's turn
		return a, api.OK
	}
	a.Step, a.Name = onTurn(p, s)
	return a, api.OK
}

// deed is the kind of what comes next.
func deed(s api.Saga) int {
	switch {
	case s.Phase == api.Running && s.Flight:
		return api.AAsk
	case s.Phase == api.Running && s.Next < s.Count:
		return api.AStart
	case s.Phase == api.Running:
		return api.AEndWhole
	case s.Phase == api.Undoing && s.Flight:
		return api.AAskUndo
	case s.Phase == api.Undoing && s.Next > 0:
		return api.AUndo
	case s.Phase == api.Undoing:
		return api.AEndUndone
	}
	return api.ANone
}

// Ask is the call that a saga in flight asks.
func Ask(p api.Plan, s api.Saga) (api.Call, api.Errno) {
	if e := inFlight(p, s); e != api.OK {
		return api.Call{}, e
	}
	step, name := onTurn(p, s)
	return api.Call{
		Saga: s.ID,
		Step: step,
		Undo: s.Phase == api.Undoing,
		Try:  s.Tries,
		Name: name,
		Data: bytes.Clone(handed(s)),
	}, api.OK
}

// handed is what the participant is handed: what the last step gave that is done and not undone. While running that is the one ahead of the step in flight, while undoing the one that is being undone.
func handed(s api.Saga) []byte {
	if s.Next == 0 {
		return s.Input
	}
	return s.Outs[s.Next-1]
}

// Answer is the record that a participant's answer makes; false: it makes none.
func Answer(p api.Plan, s api.Saga, a api.Answer) (api.Record, bool, api.Errno) {
	if len(a.Data) > api.MaxData {
		return api.Record{}, false, api.ErrLong
	}
	if e := inFlight(p, s); e != api.OK {
		return api.Record{}, false, e
	}
	step, _ := onTurn(p, s)
	r := api.Record{V: version, Kind: api.KFail, Saga: s.ID, Step: step, Code: a.Code}
	switch a.Outcome {
	case api.RDone:
		r.Kind, r.Code = landing(s), 0
	case api.RAgain:
		if s.Tries < p.Steps[step].Tries {
			break
		}
		fallthrough
	case api.RRefused:
		r.Last = lastWord(p, s)
	case api.RLost:
		return api.Record{}, false, api.OK
	default:
		return api.Record{}, false, api.ErrOutcome
	}
	r.Data = bytes.Clone(a.Data)
	return r, true, api.OK
}

// landing is the kind of the record that what is in flight is done.
func landing(s api.Saga) int {
	if s.Phase == api.Undoing {
		return api.KUndone
	}
	return api.KDone
}

// lastWord is the Last of a failure that is not to be tried again, if it may be left at that: an undoing may not, nor a step behind the pivot.
func lastWord(p api.Plan, s api.Saga) int {
	if s.Phase == api.Undoing || behindPivot(p, s.Next) {
		return 0
	}
	return 1
}
