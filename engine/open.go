package engine

import (
	"annals/api"
	"annals/disk"
	"annals/plan"
	"annals/replay"
	"annals/saga"
	"annals/store"
)

// Open begins, or goes on, on a disk, with these plans.
func Open(d *disk.Disk, o api.Options, plans ...string) (*Engine, error) {
	if d == nil {
		return nil, about(noSaga, api.ErrArg)
	}
	book, errno, _ := plan.NewBook(plans...)
	if errno != api.OK {
		return nil, about(noSaga, errno)
	}
	s, err := store.Open(d, o)
	if err != nil {
		return nil, about(noSaga, err)
	}
	e := &Engine{disk: d, store: s, book: book, out: map[int]struct{}{}}
	if err := e.comeBack(); err != nil {
		return nil, err
	}
	return e, nil
}

// comeBack goes on from what the store holds, if the plans let each saga go on that has not ended.
func (e *Engine) comeBack() error {
	if err := e.remember(); err != nil {
		return err
	}
	for _, id := range e.waiting {
		if _, err := e.due(id); err != nil {
			return about(id, err)
		}
	}
	return about(noSaga, e.store.Raise(version))
}

// remember makes the memory what the store's records tell. The clock never goes back, even if the greatest time is not told any more.
func (e *Engine) remember() error {
	recs, err := e.store.Records()
	if err != nil {
		return about(noSaga, err)
	}
	state := replay.NewFolder()
	for _, r := range recs {
		if state.Add(r) != api.OK {
			return about(r.Saga, api.ErrIllegal)
		}
		e.clock = max(e.clock, r.At)
	}
	e.state, e.waiting = state, nil
	for _, s := range state.State().Sagas {
		if _, isOut := e.out[s.ID]; !isOut && !saga.Finished(s) {
			e.waiting = append(e.waiting, s.ID)
		}
	}
	return nil
}
