package rewrite

import (
	"annals/api"
	"annals/record"
)

// sagaSet is a set of sagas, by their ids.
type sagaSet map[int]struct{}

// ended is the sagas that have an end record.
func ended(recs []api.Record) sagaSet {
	out := sagaSet{}
	for _, r := range recs {
		if r.Kind == api.KEnd {
			out[r.Saga] = struct{}{}
		}
	}
	return out
}

// greatest is the greatest id; 0, if there is none above it.
func (s sagaSet) greatest() int {
	out := 0
	for id := range s {
		out = max(out, id)
	}
	return out
}

// Split parts records into those of sagas that have no end record among them, and the others.
func Split(recs ...api.Record) ([]api.Record, []api.Record) { return ended(recs).part(recs) }

// part is the records of other sagas, and those of the set's.
func (s sagaSet) part(recs []api.Record) (others, own []api.Record) {
	for _, r := range recs {
		if _, is := s[r.Saga]; is {
			own = append(own, record.Clone(r))
		} else {
			others = append(others, record.Clone(r))
		}
	}
	return others, own
}
