package store

import (
	"annals/api"
	"annals/manifest"
	"annals/segment"
)

// goOn begins a new segment of the version v.
func (s *Store) goOn(v int) error {
	next, err := s.begin(v, 0)
	if err != nil {
		return err
	}
	s.state = next
	return nil
}

// begin closes the active segment, begins one of the version v, and is the state behind that. More is the bytes for which there must be room behind it.
func (s *Store) begin(v, more int) (state, error) {
	footer, err := s.footer()
	if err != nil {
		return state{}, err
	}
	// All that it is called with are versions: no header is refused.
	header, _ := segment.Start(v)
	m := s.follow(v, len(footer))
	if err := s.fits(m, len(footer)+len(header)+more); err != nil {
		return state{}, err
	}
	if err := s.end(s.activeName(), footer); err != nil {
		return state{}, err
	}
	next := state{manifest: m, active: gathered(), size: len(header)}
	if err := s.write(next.activeName(), header); err != nil {
		return state{}, err
	}
	return next, s.swap(m)
}

// footer is what closes the active segment.
func (s *Store) footer() ([]byte, error) {
	name := s.activeName()
	b, err := s.read(name)
	if err != nil {
		return nil, err
	}
	footer, e := segment.Footer(b)
	return footer, about(name, e)
}

// follow is the manifest behind the store's, in which the active segment is closed by a footer of that size.
func (s *Store) follow(v, footer int) api.Manifest {
	m := s.manifest
	last := len(m.Segs) - 1
	closed := api.Seg{Num: m.Segs[last].Num, Size: s.size + footer, Count: s.active.Len()}
	// The old list stays as it is: the call may yet be refused.
	segs := append([]api.Seg{}, m.Segs[:last]...)
	segs = append(segs, closed, api.Seg{Num: m.Next})
	return api.Manifest{Gen: m.Gen + 1, V: v, Next: m.Next + 1, Top: m.Top, Segs: segs}
}

// fits refuses a manifest that may not be, and one for which, with other bytes beside it, there is no room.
func (f files) fits(m api.Manifest, beside int) error {
	b, e := manifest.Encode(m)
	if e != api.OK {
		return about(manifestName, e)
	}
	return f.room(len(b) + beside)
}
