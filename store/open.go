package store

import (
	"annals/api"
	"annals/disk"
	"annals/manifest"
	"annals/segment"
)

const firstNum = 1 // of a new store's segment

// Open makes the disk's store, or comes back to it.
func Open(d *disk.Disk, o api.Options) (*Store, error) {
	s, err := open(d, o)
	if err != nil {
		return nil, told(opOpen, err)
	}
	return s, nil
}

func open(d *disk.Disk, o api.Options) (*Store, error) {
	if d == nil {
		return nil, because(api.ErrArg)
	}
	f := files{manifested{d}}
	if err := f.ready(); err != nil {
		return nil, err
	}
	if !isVersion(o.V) {
		return nil, because(api.ErrVersion)
	}
	if o.Limit < api.MinLimit || o.Limit > api.MaxLimit {
		return nil, because(api.ErrOptions)
	}
	st, err := f.find(o.V)
	if err != nil {
		return nil, err
	}
	return &Store{files: f, limit: o.Limit, state: st}, nil
}

// find is the state of the disk's store; one of the version v is made, if there is none.
func (f files) find(v int) (state, error) {
	m, e := f.drive.Load()
	switch e {
	case api.OK:
		return f.comeBack(m)
	case api.ErrNone:
		return f.found(v)
	}
	return state{}, about(manifestName, e)
}

// comeBack looks at all that the manifest names, and only then clears away what a crash may have left.
func (f files) comeBack(m api.Manifest) (state, error) {
	st := state{manifest: m}
	for _, seg := range st.sealed() {
		if _, err := f.readSealed(m.V, seg); err != nil {
			return state{}, err
		}
	}
	name := st.activeName()
	scan, size, err := f.readActive(m.V, name)
	if err != nil {
		return state{}, err
	}
	st.active, st.size = gathered(scan.Recs...), scan.End
	return st, f.clear(m, name, scan.End, size)
}

// clear takes the active segment's torn end away, makes the rest last, and removes the files that do not count.
func (f files) clear(m api.Manifest, name string, end, size int) error {
	if end != size {
		if e := f.drive.Truncate(name, end); e != api.OK {
			return about(name, e)
		}
	}
	if err := f.sync(name); err != nil {
		return err
	}
	return f.sweep(m)
}

// readSealed reads a closed segment of a store of the version v, which must be just what the manifest says.
func (f files) readSealed(v int, seg api.Seg) (api.Scan, error) {
	name := manifest.Name(seg.Num)
	b, err := f.read(name)
	if err != nil {
		return api.Scan{}, err
	}
	scan, e := segment.Read(b)
	if e != api.OK || len(b) != seg.Size || scan.V > v || len(scan.Recs) != seg.Count {
		return api.Scan{}, about(name, api.ErrCorrupt)
	}
	return scan, nil
}

// readActive reads the active segment of a store of the version v, torn or not, and its file's length.
func (f files) readActive(v int, name string) (api.Scan, int, error) {
	b, err := f.read(name)
	if err != nil {
		return api.Scan{}, 0, err
	}
	scan, e := segment.Scan(b)
	if e != api.OK || scan.V != v {
		return api.Scan{}, 0, about(name, api.ErrCorrupt)
	}
	return scan, len(b), nil
}

// found makes a store where there is none.
func (f files) found(v int) (state, error) {
	st := state{
		manifest: api.Manifest{Gen: 1, V: v, Next: firstNum + 1, Segs: []api.Seg{{Num: firstNum}}},
		active:   gathered(),
	}
	// The version was asked ahead: no header is refused.
	header, _ := segment.Start(v)
	st.size = len(header)
	old, size := f.leftOver()
	// What was left over gives way first.
	if err := f.fits(st.manifest, len(header)-size); err != nil {
		return state{}, err
	}
	if err := f.removeAll(old); err != nil {
		return state{}, err
	}
	if err := f.write(st.activeName(), header); err != nil {
		return state{}, err
	}
	return st, f.swap(st.manifest)
}

// leftOver is a store's names on a disk without a manifest, rising, and how many bytes their files have: a crash may have cut the making of a store short.
func (f files) leftOver() ([]string, int) {
	var names []string
	size := 0
	for _, name := range f.drive.List() {
		if _, isSeg := manifest.Num(name); !isSeg && name != freshName {
			continue
		}
		// A file that is listed is there.
		b, _ := f.drive.Read(name)
		names = append(names, name)
		size += len(b)
	}
	return names, size
}

func (f files) removeAll(names []string) error {
	for _, name := range names {
		if e := f.drive.Remove(name); e != api.OK {
			return about(name, e)
		}
	}
	if len(names) == 0 {
		return nil
	}
	return because(f.drive.SyncDir())
}
