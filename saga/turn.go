package saga

import "annals/api"

// The outcomes that an end tells; 0 tells none.
const (
	codeWhole  = 1
	codeUndone = 2
)

// kinds holds of each kind of record the one phase in which it may come (0: in both that have not ended), and whether it lands: whether it answers what is in flight.
var kinds = [api.KEnd + 1]struct {
	phase int
	lands bool
}{
	api.KStart:  {phase: api.Running},
	api.KDone:   {phase: api.Running, lands: true},
	api.KFail:   {lands: true},
	api.KUndo:   {phase: api.Undoing},
	api.KUndone: {phase: api.Undoing, lands: true},
	api.KEnd:    {},
}

// refusal tells why a valid record of version 3 may not come next; OK, if it may.
func refusal(s api.Saga, r api.Record) api.Errno {
	forGood := r.Last == 1 // only a failure has it
	switch {
	case r.Saga != s.ID:
		return api.ErrOther
	case r.Kind == api.KBegin:
		return api.ErrBegin
	case ended(s):
		return api.ErrEnded
	case !inPhase(s, r.Kind) || forGood && s.Phase == api.Undoing:
		return api.ErrPhase
	case kinds[r.Kind].lands != s.Flight:
		return api.ErrFlight
	case !onTurn(s, r):
		return api.ErrStep
	case r.Try != 0 && r.Try != nextTry(s): // only a start and an undo have it
		return api.ErrTry
	case forGood && behindPivot(s, r.Step):
		return api.ErrPivot
	case r.Kind == api.KEnd && r.Code != 0 && r.Code != outcome(s):
		return api.ErrCode
	}
	return api.OK
}

func ended(s api.Saga) bool { return s.Phase == api.Whole || s.Phase == api.Undone }

// forward tells whether the saga goes, or has gone, from step to step; else it goes back.
func forward(s api.Saga) bool { return s.Phase == api.Running || s.Phase == api.Whole }

func inPhase(s api.Saga, kind int) bool {
	return kinds[kind].phase == 0 || kinds[kind].phase == s.Phase
}

// atEnd tells whether nothing is left but to end.
func atEnd(s api.Saga) bool {
	if forward(s) {
		return s.Next == s.Count
	}
	return s.Next == 0
}

// turn is the step whose turn it is, or whose undoing's.
func turn(s api.Saga) int {
	if forward(s) {
		return s.Next
	}
	return s.Next - 1
}

func onTurn(s api.Saga, r api.Record) bool {
	if r.Kind == api.KEnd {
		return atEnd(s)
	}
	return !atEnd(s) && r.Step == turn(s)
}

func nextTry(s api.Saga) int { return min(s.Tries+1, api.MaxTry) }

func behindPivot(s api.Saga, step int) bool { return s.Pivot != 0 && step >= s.Pivot }

// outcome is what a true end of the saga tells.
func outcome(s api.Saga) int {
	if forward(s) {
		return codeWhole
	}
	return codeUndone
}

// course is a saga that is being carried on, in memory of its own.
type course api.Saga

// deed is what a kind of record does; a begin does nothing to a saga that is there, and never gets here.
func deed(kind int) func(*course, api.Record) {
	return [...]func(*course, api.Record){
		api.KStart:  (*course).start,
		api.KDone:   (*course).done,
		api.KFail:   (*course).fail,
		api.KUndo:   (*course).start,
		api.KUndone: (*course).undone,
		api.KEnd:    (*course).end,
	}[kind]
}

func (c *course) start(r api.Record) { c.Flight, c.Tries = true, r.Try }

func (c *course) done(r api.Record) {
	c.Flight, c.Tries = false, 0
	c.Next++
	c.Outs = append(c.Outs, r.Data)
}

// fail keeps the tries, unless the failure is for good: the step may be tried again.
func (c *course) fail(r api.Record) {
	c.Flight = false
	if r.Last == 0 {
		return
	}
	c.Tries, c.Phase = 0, api.Undoing
	c.FailStep, c.FailCode, c.Fail = r.Step, r.Code, r.Data
}

func (c *course) undone(r api.Record) {
	c.Flight, c.Tries = false, 0
	c.Next--
	c.Undos = append(c.Undos, r.Data)
}

func (c *course) end(api.Record) {
	if c.Phase == api.Running {
		c.Phase = api.Whole
	} else {
		c.Phase = api.Undone
	}
}
