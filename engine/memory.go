package engine

import (
	"slices"

	"annals/api"
	"annals/plan"
)

// look is a saga and its plan.
func (e *Engine) look(id int) (api.Plan, api.Saga, error) {
	s, errno := e.state.Saga(id)
	if errno != api.OK {
		return api.Plan{}, api.Saga{}, errno
	}
	p, some := e.book.Find(s.Name)
	if !some {
		return api.Plan{}, api.Saga{}, api.ErrNoPlan
	}
	return p, s, nil
}

// due is what comes next for a saga.
func (e *Engine) due(id int) (api.Action, error) {
	p, s, err := e.look(id)
	if err != nil {
		return api.Action{}, err
	}
	a, errno := plan.Next(p, s)
	return a, because(errno)
}

// write appends a record, as one of the newest version and of this moment, and folds it. The store refuses it or it is folded: nothing is written but what may come.
func (e *Engine) write(r api.Record) error {
	r.V, r.At = version, e.tick()
	if err := e.store.Append(r); err != nil {
		return err
	}
	e.clock = r.At
	e.state.Add(r)
	return nil
}

// tick is the moment behind the clock's; behind the last one there is none.
func (e *Engine) tick() int {
	if e.clock == api.MaxID {
		return api.MaxID
	}
	return e.clock + 1
}

// wait lets a saga wait for its turn.
func (e *Engine) wait(id int) {
	if i, found := slices.BinarySearch(e.waiting, id); !found {
		e.waiting = slices.Insert(e.waiting, i, id)
	}
}

func (e *Engine) unwait(id int) {
	if i, found := slices.BinarySearch(e.waiting, id); found {
		e.waiting = slices.Delete(e.waiting, i, i+1)
	}
}
