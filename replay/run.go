package replay

import (
	"annals/api"
	"annals/store"
)

// Run folds a store's records; its segments are read side by side by so many workers.
func Run(s *store.Store, workers int) (api.State, int, error) {
	recs, err := records(s, workers)
	if err != nil {
		return api.State{}, 0, err
	}
	state, at := Fold(recs...)
	return state, at, nil
}

// records is what s.Records() tells, read side by side.
func records(s *store.Store, workers int) ([]api.Record, error) {
	if s == nil {
		return nil, api.ErrArg
	}
	blobs, err := s.Blobs()
	if err != nil {
		return nil, err
	}
	if workers < 1 || workers > api.MaxWorkers {
		return nil, api.ErrArg
	}
	recs, e := joined(readAll(blobs, workers))
	if e != api.OK {
		// No store leaves such a segment: somebody else changed the disk, and what is wrong there is the store's to tell.
		return s.Records()
	}
	return recs, nil
}

// One tells one saga of a store, through the indexes.
func One(s *store.Store, id int) (api.Saga, error) {
	if s == nil {
		return api.Saga{}, api.ErrArg
	}
	recs, err := s.Lookup(id)
	if err != nil {
		return api.Saga{}, err
	}
	if len(recs) == 0 {
		return api.Saga{}, api.ErrNoSaga
	}
	state, at := Fold(recs...)
	if at != noPlace {
		return api.Saga{}, api.ErrIllegal
	}
	return state.Sagas[0], nil
}
