package disk

import (
	"bytes"
	"maps"
	"slices"

	"annals/api"
)

// Read tells a file's bytes.
func (d *Disk) Read(name string) ([]byte, api.Errno) {
	f, e := d.find(name)
	if e != api.OK {
		return nil, e
	}
	return bytes.Clone(f.data), api.OK
}

// List tells all names, rising.
func (d *Disk) List() []string {
	if d.down {
		return nil
	}
	return rising(d.names)
}

// Free tells how much room there is.
func (d *Disk) Free() int {
	if d.down {
		return 0
	}
	return d.quota - d.taken
}

// Files tells all files, by rising name.
func (d *Disk) Files() []api.File {
	var out []api.File
	for _, name := range rising(d.names) {
		out = append(out, api.File{Name: name, Data: bytes.Clone(d.names[name].data)})
	}
	return out
}

// Crash tells what a crash would leave.
func (d *Disk) Crash(keep int, cuts ...api.Cut) []api.File {
	names := d.leave(keep)
	var out []api.File
	for k, name := range rising(names) {
		var cut api.Cut
		if k < len(cuts) {
			cut = cuts[k]
		}
		out = append(out, api.File{Name: name, Data: names[name].leave(cut)})
	}
	return out
}

// leave is the names that a crash leaves: the lasting ones, with the first keep of the changes done again.
func (d *Disk) leave(keep int) map[string]*file {
	names := map[string]*file{}
	maps.Copy(names, d.lasting)
	for _, c := range d.changes[:within(keep, len(d.changes))] {
		c.do(names)
	}
	return names
}

// leave is the bytes of a file that a crash leaves.
func (f *file) leave(cut api.Cut) []byte {
	unsynced := len(f.data) - f.synced
	keep := within(cut.Keep, unsynced)
	zero := within(cut.Zero, unsynced-keep)
	out := make([]byte, f.synced+keep+zero)
	copy(out, f.data[:f.synced+keep])
	return out
}

// within takes n into 0 to most.
func within(n, most int) int { return min(max(n, 0), most) }

func rising(names map[string]*file) []string { return slices.Sorted(maps.Keys(names)) }
