package store

import (
	"annals/api"
	"annals/manifest"
	"annals/record"
	"annals/segment"
)

// Records tells all records, in their order.
func (s *Store) Records() ([]api.Record, error) {
	out, err := s.records()
	if err != nil {
		return nil, told("records", err)
	}
	return out, nil
}

// records asks nothing ahead: there is always a file to read, and a disk that is down refuses that.
func (s *Store) records() ([]api.Record, error) {
	var out []api.Record
	for _, seg := range s.sealed() {
		scan, err := s.readSealed(s.manifest.V, seg)
		if err != nil {
			return nil, err
		}
		out = append(out, scan.Recs...)
	}
	scan, _, err := s.readActive(s.manifest.V, s.activeName())
	if err != nil {
		return nil, err
	}
	return append(out, scan.Recs...), nil
}

// Lookup tells a saga's records, through the indexes.
func (s *Store) Lookup(saga int) ([]api.Record, error) {
	out, err := s.lookup(saga)
	if err != nil {
		return nil, told("lookup", err)
	}
	return out, nil
}

func (s *Store) lookup(saga int) ([]api.Record, error) {
	if err := s.ready(); err != nil {
		return nil, err
	}
	if saga < minSaga {
		return nil, because(api.ErrArg)
	}
	var out []api.Record
	for _, seg := range s.sealed() {
		recs, err := s.findIn(manifest.Name(seg.Num), saga)
		if err != nil {
			return nil, err
		}
		out = append(out, recs...)
	}
	for _, r := range s.active.Get(saga) {
		out = append(out, record.Clone(r))
	}
	return out, nil
}

// findIn is a saga's records in a closed segment.
func (f files) findIn(name string, saga int) ([]api.Record, error) {
	b, err := f.read(name)
	if err != nil {
		return nil, err
	}
	recs, e := segment.Find(b, saga)
	if e != api.OK {
		return nil, about(name, api.ErrCorrupt)
	}
	return recs, nil
}

// Blobs tells the bytes of all segments.
func (s *Store) Blobs() ([][]byte, error) {
	out, err := s.blobs()
	if err != nil {
		return nil, told("blobs", err)
	}
	return out, nil
}

// blobs asks nothing ahead, as records.
func (s *Store) blobs() ([][]byte, error) {
	var out [][]byte
	for _, seg := range s.manifest.Segs {
		b, err := s.read(manifest.Name(seg.Num))
		if err != nil {
			return nil, err
		}
		out = append(out, b)
	}
	return out, nil
}
