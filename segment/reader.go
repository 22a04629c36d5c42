package segment

import (
	"annals/api"
	"annals/index"
	"annals/record"
	"annals/wire"
)

// cursor is a place in a segment's bytes, and the way on from there, frame by frame.
type cursor struct {
	b       []byte
	version int
	at      int
}

// begin is a cursor behind a segment's header.
func begin(b []byte) (cursor, api.Errno) {
	if len(b) > api.MaxSegment {
		return cursor{}, api.ErrLong
	}
	if len(b) < headSize || string(b[:len(magic)]) != magic {
		return cursor{}, api.ErrHead
	}
	v := int(b[len(magic)])
	if !isVersion(v) {
		return cursor{}, api.ErrVersion
	}
	return cursor{b: b, version: v, at: headSize}, api.OK
}

// place is where the frame at hand begins.
func (c *cursor) place() int { return c.at }

// next reads the good frame at hand and goes behind it; where there is none, it stays.
func (c *cursor) next() (api.Record, bool) {
	body, end, e := wire.ReadFrame(c.b, c.at)
	if e != api.OK || body[0] != recordLetter {
		return api.Record{}, false
	}
	r, e := record.Decode(c.version, body[1:])
	if e != api.OK {
		return api.Record{}, false
	}
	c.at = end
	return r, true
}

// reader is a cursor that knows whether a run may end where it stands.
type reader interface {
	place() int
	next() (api.Record, bool)
	end() api.Errno
}

// forgiving reads what may be torn: a run ends where it ends.
type forgiving struct{ cursor }

func (*forgiving) end() api.Errno { return api.OK }

// strict reads what must be whole: a run ends at one place and at no other.
type strict struct {
	cursor
	to int
}

func (r *strict) end() api.Errno {
	if r.at != r.to {
		return api.ErrRecord
	}
	return api.OK
}

// pick reads the record at a place that the footer tells: one behind the header, in a frame that ends where the run does at the latest.
func (r *strict) pick(at int) (api.Record, api.Errno) {
	r.at = at
	rec, ok := r.next()
	if !ok || at < headSize || r.at > r.to {
		return api.Record{}, api.ErrRecord
	}
	return rec, api.OK
}

// good is a good run: its records, where they begin, these places by saga, and where it ends.
type good struct {
	recs   []api.Record
	places []int
	sagas  *index.Multi[int]
	end    int
}

// gather reads the good run from the place on at which a reader stands.
func gather(r reader) (good, api.Errno) {
	g := good{sagas: index.New[int](), end: r.place()}
	for {
		rec, ok := r.next()
		if !ok {
			return g, r.end()
		}
		g.recs = append(g.recs, rec)
		g.places = append(g.places, g.end)
		g.sagas.Add(rec.Saga, g.end)
		g.end = r.place()
	}
}

// told is a good run as it is handed out.
func (g good) told(version int, sealed bool) api.Scan {
	return api.Scan{V: version, End: g.end, Sealed: sealed, Recs: g.recs, At: g.places, Index: entries(g.sagas)}
}

// entries are an index's places, saga by saga.
func entries(sagas *index.Multi[int]) []api.Entry {
	var out []api.Entry
	for saga, at := range sagas.All() {
		if len(out) == 0 || out[len(out)-1].Saga != saga {
			out = append(out, api.Entry{Saga: saga})
		}
		last := &out[len(out)-1]
		last.At = append(last.At, at)
	}
	return out
}
