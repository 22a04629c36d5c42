package store

import (
	"annals/api"
	"annals/lift"
	"annals/manifest"
	"annals/segment"
)

// shares keeps the segments that Replace fills few: each may have such a part of all bytes, whatever the limit is, so that a manifest has a place for all of them.
const shares = 50

// Replace puts other records in the place of all; top: the greatest saga id that was dropped.
func (s *Store) Replace(v int, top int, recs ...api.Record) error {
	return told("replace", s.replace(v, top, recs))
}

func (s *Store) replace(v, top int, recs []api.Record) error {
	if err := s.ready(); err != nil {
		return err
	}
	if err := s.reach(v); err != nil {
		return err
	}
	if top < 0 {
		return because(api.ErrArg)
	}
	if err := admit(v, recs); err != nil {
		return err
	}
	list, total, err := frames(v, recs)
	if err != nil {
		return err
	}
	parts := pack(v, list, max(s.limit, total/shares))
	next, need := s.renew(v, top, parts)
	if err := s.fits(next.manifest, need); err != nil {
		return err
	}
	for i, seg := range next.manifest.Segs {
		if err := s.write(manifest.Name(seg.Num), parts[i].b); err != nil {
			return err
		}
	}
	if err := s.swap(next.manifest); err != nil {
		return err
	}
	if err := s.sweep(next.manifest); err != nil {
		return err
	}
	s.state = next
	return nil
}

// frame is a record and its bytes in a segment.
type frame struct {
	rec api.Record
	b   []byte
}

// frames is the records lifted to the version v, with their bytes, and how many these are in all. It goes no further than any disk has room.
func frames(v int, recs []api.Record) ([]frame, int, error) {
	var out []frame
	total := 0
	for _, r := range recs {
		// What is admitted is lifted, and what is lifted is packed: none is refused.
		up, _ := lift.Up(r, v)
		b, _ := segment.Pack(v, up)
		total += len(b)
		if total > api.MaxQuota {
			return nil, 0, because(api.ErrFull)
		}
		out = append(out, frame{up, b})
	}
	return out, total, nil
}

// part is a segment that is filled: its records and its bytes.
type part struct {
	recs []api.Record
	b    []byte
}

// pack fills segments of the version v, each up to the bound if it has more than one record, and closes all but the last.
func pack(v int, list []frame, bound int) []part {
	// The version was asked ahead: no header is refused.
	header, _ := segment.Start(v)
	fresh := func() part { return part{b: append([]byte{}, header...)} }
	var out []part
	last := fresh()
	for _, f := range list {
		if len(last.recs) > 0 && len(last.b)+len(f.b) > bound {
			out = append(out, last.closed())
			last = fresh()
		}
		last.recs = append(last.recs, f.rec)
		last.b = append(last.b, f.b...)
	}
	return append(out, last)
}

// closed is the part with its footer. It is not refused: the part is whole, and far below a segment's bound.
func (p part) closed() part {
	footer, _ := segment.Footer(p.b)
	return part{p.recs, append(p.b, footer...)}
}

// renew is the state in which the parts are all the segments, the last one active, and how many bytes they have.
func (s *Store) renew(v, top int, parts []part) (state, int) {
	old := s.manifest
	m := api.Manifest{Gen: old.Gen + 1, V: v, Next: old.Next + len(parts), Top: max(old.Top, top)}
	need := 0
	for i, p := range parts {
		m.Segs = append(m.Segs, api.Seg{Num: old.Next + i, Size: len(p.b), Count: len(p.recs)})
		need += len(p.b)
	}
	last := parts[len(parts)-1]
	m.Segs[len(parts)-1] = api.Seg{Num: m.Next - 1}
	return state{manifest: m, active: gathered(last.recs...), size: len(last.b)}, need
}
