package archive

import (
	"slices"

	"annals/api"
	"annals/disk"
	"annals/store"
)

const (
	minVersion   = 1
	maxVersion   = 3
	manifestName = "MANIFEST"
)

// Backup writes all records of a store.
func Backup(s *store.Store) ([]byte, error) {
	b, err := backup(s)
	if err != nil {
		return nil, &Fault{Why: "backup", Err: err}
	}
	return b, nil
}

func backup(s *store.Store) ([]byte, error) {
	if s == nil {
		return nil, api.ErrArg
	}
	recs, err := s.Records()
	if err != nil {
		return nil, err
	}
	b, e := Pack(api.Archive{Top: s.Stat().Top, Recs: recs})
	if e != api.OK {
		return nil, e
	}
	return b, nil
}

// Restore makes a store of an archive on a disk that has none.
func Restore(d *disk.Disk, o api.Options, b []byte) (*store.Store, error) {
	s, err := restore(d, o, b)
	if err != nil {
		return nil, &Fault{Why: "restore", Err: err}
	}
	return s, nil
}

func restore(d *disk.Disk, o api.Options, b []byte) (*store.Store, error) {
	a, e := admit(d, o, b)
	if e != api.OK {
		return nil, e
	}
	// What the store would refuse is found out where it changes nothing; behind that, only the disk's going down can hinder the second one.
	if _, err := fill(likeness(d), o, a); err != nil {
		return nil, err
	}
	return fill(d, o, a)
}

// admit is the archive that may be restored to the disk.
func admit(d *disk.Disk, o api.Options, b []byte) (api.Archive, api.Errno) {
	if d == nil {
		return api.Archive{}, api.ErrArg
	}
	if len(b) > api.MaxArchive {
		return api.Archive{}, api.ErrLong
	}
	if d.Down() {
		return api.Archive{}, api.ErrDown
	}
	if o.V < minVersion || o.V > maxVersion {
		return api.Archive{}, api.ErrVersion
	}
	if o.Limit < api.MinLimit || o.Limit > api.MaxLimit {
		return api.Archive{}, api.ErrOptions
	}
	a, e, _ := Read(b)
	if e != api.OK {
		return api.Archive{}, e
	}
	if slices.Contains(d.List(), manifestName) {
		return api.Archive{}, api.ErrUsed
	}
	return a, api.OK
}

// likeness is another disk with the same files, all synced, and as much free room. It is never refused: the disk has room for as much.
func likeness(d *disk.Disk) *disk.Disk {
	files := d.Files()
	quota := d.Free()
	for _, f := range files {
		quota += len(f.Data)
	}
	out, _ := disk.Load(quota, files)
	return out
}

// fill makes the disk's store, and puts the archive's records into it.
func fill(d *disk.Disk, o api.Options, a api.Archive) (*store.Store, error) {
	s, err := store.Open(d, o)
	if err != nil {
		return nil, err
	}
	if err := s.Replace(o.V, a.Top, a.Recs...); err != nil {
		return nil, err
	}
	return s, nil
}
