package engine

import (
	"slices"

	"annals/api"
	"annals/plan"
)

// The outcomes that an end tells.
const (
	codeWhole  = 1
	codeUndone = 2
)

// Next tells which participant is to be asked what; false: there is nothing to ask now.
func (e *Engine) Next() (api.Call, bool, error) {
	if e.isDown() {
		return api.Call{}, false, about(noSaga, api.ErrDown)
	}
	asked := noSaga
round:
	for range len(e.waiting) {
		id := e.following()
		kind, err := e.carryOn(id)
		if err != nil {
			return api.Call{}, false, about(id, err)
		}
		switch kind {
		case api.AEndWhole, api.AEndUndone: // there is nobody to be asked
			continue round
		default:
			asked = id
			break round
		}
	}
	// Nothing is asked of anybody that a crash could still take away.
	if err := e.store.Sync(); err != nil {
		return api.Call{}, false, about(asked, err)
	}
	if asked == noSaga {
		return api.Call{}, false, nil
	}
	return e.letOut(asked)
}

// following is the waiting saga whose turn it is: the first one above the last turn, else the least one. (A saga that a round has gone past has ended, and waits no more.)
func (e *Engine) following() int {
	i, found := slices.BinarySearch(e.waiting, e.turn)
	if found {
		i++
	}
	return e.waiting[i%len(e.waiting)]
}

// carryOn writes what comes next for a saga, and tells of which kind it is.
func (e *Engine) carryOn(id int) (int, error) {
	a, err := e.due(id)
	if err != nil {
		return api.ANone, err
	}
	return a.Kind, deed(a.Kind)(e, a)
}

// letOut lets a saga's call out.
func (e *Engine) letOut(id int) (api.Call, bool, error) {
	p, s, err := e.look(id)
	if err != nil {
		return api.Call{}, false, about(id, err)
	}
	call, errno := plan.Ask(p, s)
	if errno != api.OK {
		return api.Call{}, false, about(id, errno)
	}
	e.out[id] = struct{}{}
	e.unwait(id)
	e.turn = id
	return call, true, nil
}

// deed is what is written by the kind of an action. No saga waits that has ended: ANone never gets here.
func deed(kind int) func(*Engine, api.Action) error {
	return [...]func(*Engine, api.Action) error{
		api.AStart:     (*Engine).start,
		api.AAsk:       (*Engine).askAgain,
		api.AUndo:      (*Engine).undo,
		api.AAskUndo:   (*Engine).askAgain,
		api.AEndWhole:  (*Engine).endWhole,
		api.AEndUndone: (*Engine).endUndone,
	}[kind]
}

func (e *Engine) start(a api.Action) error {
	return e.write(api.Record{Kind: api.KStart, Saga: a.Saga, Step: a.Step, Try: a.Try})
}

func (e *Engine) undo(a api.Action) error {
	return e.write(api.Record{Kind: api.KUndo, Saga: a.Saga, Step: a.Step, Try: a.Try})
}

// askAgain writes nothing: what is in flight has been written.
func (e *Engine) askAgain(api.Action) error { return nil }

func (e *Engine) endWhole(a api.Action) error { return e.end(a.Saga, codeWhole) }

func (e *Engine) endUndone(a api.Action) error { return e.end(a.Saga, codeUndone) }

func (e *Engine) end(id, code int) error {
	if err := e.write(api.Record{Kind: api.KEnd, Saga: id, Code: code}); err != nil {
		return err
	}
	e.unwait(id)
	return nil
}
