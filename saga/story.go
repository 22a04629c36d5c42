package saga

import (
	"bytes"

	"annals/api"
)

// Story is a list of records that leads to just this saga.
func Story(s api.Saga) ([]api.Record, api.Errno) {
	if e := Check(s); e != api.OK {
		return nil, e
	}
	t := teller{saga: s}
	t.begin()
	for i, out := range s.Outs {
		t.tell(api.Record{Kind: api.KStart, Step: i, Try: 1})
		t.tell(api.Record{Kind: api.KDone, Step: i, Data: out})
	}
	if !forward(s) {
		t.failure()
	}
	t.tries()
	if ended(s) {
		t.tell(api.Record{Kind: api.KEnd, Code: outcome(s)})
	}
	return t.recs, api.OK
}

// teller writes down the records of one saga.
type teller struct {
	saga api.Saga
	recs []api.Record
}

// tell writes down a record, with what all of them but the first have in common.
func (t *teller) tell(r api.Record) {
	r.V, r.Saga, r.At = version, t.saga.ID, t.saga.At
	r.Data = bytes.Clone(r.Data)
	t.recs = append(t.recs, r)
}

func (t *teller) begin() {
	s := t.saga
	t.tell(api.Record{Kind: api.KBegin, Count: s.Count, Pivot: s.Pivot, Name: s.Name, Data: s.Input})
	t.recs[0].At = s.Begun
}

// failure tells the failure for good and what was undone since.
func (t *teller) failure() {
	s := t.saga
	t.tell(api.Record{Kind: api.KStart, Step: s.FailStep, Try: 1})
	t.tell(api.Record{Kind: api.KFail, Step: s.FailStep, Last: 1, Code: s.FailCode, Data: s.Fail})
	for j, undo := range s.Undos {
		step := s.FailStep - 1 - j
		t.tell(api.Record{Kind: api.KUndo, Step: step, Try: 1})
		t.tell(api.Record{Kind: api.KUndone, Step: step, Data: undo})
	}
}

// tries tells how often the step, or the undoing, whose turn it is was begun.
func (t *teller) tries() {
	kind, step := api.KStart, turn(t.saga)
	if !forward(t.saga) {
		kind = api.KUndo
	}
	for try := 1; try <= t.saga.Tries; try++ {
		t.tell(api.Record{Kind: kind, Step: step, Try: try})
		if try < t.saga.Tries || !t.saga.Flight {
			t.tell(api.Record{Kind: api.KFail, Step: step})
		}
	}
}
