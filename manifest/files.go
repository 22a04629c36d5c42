package manifest

import (
	"annals/api"
	"annals/disk"
)

// ready looks for what each call on a disk is refused for ahead of all.
func ready(d *disk.Disk) api.Errno {
	if d == nil {
		return api.ErrArg
	}
	if d.Down() {
		return api.ErrDown
	}
	return api.OK
}

// Load reads the disk's manifest.
func Load(d *disk.Disk) (api.Manifest, api.Errno) {
	if e := ready(d); e != api.OK {
		return api.Manifest{}, e
	}
	b, e := d.Read(fileName)
	// Of a disk that is not down, and a name that is one, nothing else can be told than that the file is missing.
	if e != api.OK {
		return api.Manifest{}, api.ErrNone
	}
	return Decode(b)
}

// Swap puts a manifest in the place of the disk's.
func Swap(d *disk.Disk, m api.Manifest) api.Errno {
	if e := ready(d); e != api.OK {
		return e
	}
	b, e := Encode(m)
	if e != api.OK {
		return e
	}
	// What an earlier Swap left behind gives way ahead of all else.
	left, e := d.Read(freshName)
	if len(b) > d.Free()+len(left) {
		return api.ErrFull
	}
	for _, step := range steps(d, b, e == api.OK) {
		if e := step(); e != api.OK {
			return e
		}
	}
	return api.OK
}

// steps is what a Swap does. The bytes last ahead of the name, so that under the name there is never less than a whole manifest.
func steps(d *disk.Disk, b []byte, isThere bool) []func() api.Errno {
	begin := func() api.Errno { return d.Create(freshName) }
	if isThere {
		begin = func() api.Errno { return d.Truncate(freshName, 0) }
	}
	return []func() api.Errno{
		begin,
		func() api.Errno { return d.Append(freshName, b) },
		func() api.Errno { return d.Sync(freshName) },
		func() api.Errno { return d.Rename(freshName, fileName) },
		func() api.Errno { return d.SyncDir() },
	}
}

// Sweep removes MANIFEST.tmp and the segments' files that the manifest does not name, and tells their names.
func Sweep(d *disk.Disk, m api.Manifest) ([]string, api.Errno) {
	if e := ready(d); e != api.OK {
		return nil, e
	}
	if e := Check(m); e != api.OK {
		return nil, e
	}
	names := stale(d, m)
	for _, name := range names {
		if e := d.Remove(name); e != api.OK {
			return nil, e
		}
	}
	if len(names) == 0 {
		return nil, api.OK
	}
	if e := d.SyncDir(); e != api.OK {
		return nil, e
	}
	return names, api.OK
}

// stale is the store's names on a disk that do not count, rising.
func stale(d *disk.Disk, m api.Manifest) []string {
	counted := map[int]api.Seg{}
	for _, s := range m.Segs {
		counted[s.Num] = s
	}
	var out []string
	for _, name := range d.List() {
		num, isSeg := Num(name)
		_, counts := counted[num]
		if name == freshName || isSeg && !counts {
			out = append(out, name)
		}
	}
	return out
}
