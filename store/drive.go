package store

import (
	"annals/api"
	"annals/disk"
	"annals/manifest"
)

const (
	manifestName = "MANIFEST"
	freshName    = "MANIFEST.tmp"
)

// drive is a disk as a store sees it: the calls that it makes there, and no other.
type drive interface {
	Down() bool
	Free() int
	List() []string
	Read(name string) ([]byte, api.Errno)
	Create(name string) api.Errno
	Append(name string, data []byte) api.Errno
	Sync(name string) api.Errno
	Truncate(name string, size int) api.Errno
	Remove(name string) api.Errno
	SyncDir() api.Errno
	Load() (api.Manifest, api.Errno)
	Swap(m api.Manifest) api.Errno
	Sweep(m api.Manifest) ([]string, api.Errno)
}

// manifested is a disk with what is done with its manifest.
type manifested struct{ *disk.Disk }

func (d manifested) Load() (api.Manifest, api.Errno) { return manifest.Load(d.Disk) }

func (d manifested) Swap(m api.Manifest) api.Errno { return manifest.Swap(d.Disk, m) }

func (d manifested) Sweep(m api.Manifest) ([]string, api.Errno) { return manifest.Sweep(d.Disk, m) }

// files is a drive whose calls are steps: what goes wrong is a fault that knows the file.
type files struct{ drive drive }

// ready refuses a disk that is down.
func (f files) ready() error {
	if f.drive.Down() {
		return because(api.ErrDown)
	}
	return nil
}

// room refuses what needs more room than there is.
func (f files) room(need int) error {
	if need > f.drive.Free() {
		return because(api.ErrFull)
	}
	return nil
}

func (f files) read(name string) ([]byte, error) {
	b, e := f.drive.Read(name)
	if e == api.ErrMissing {
		e = api.ErrLost
	}
	return b, about(name, e)
}

// join appends bytes to a file; they do not last yet.
func (f files) join(name string, b []byte) error { return about(name, f.drive.Append(name, b)) }

func (f files) sync(name string) error { return about(name, f.drive.Sync(name)) }

// end appends a file's last bytes, and makes it last.
func (f files) end(name string, b []byte) error {
	if err := f.join(name, b); err != nil {
		return err
	}
	return f.sync(name)
}

// write makes a new file that has these bytes, and makes them last; its name does not yet.
func (f files) write(name string, b []byte) error {
	if e := f.drive.Create(name); e != api.OK {
		return about(name, e)
	}
	return f.end(name, b)
}

func (f files) swap(m api.Manifest) error { return because(f.drive.Swap(m)) }

// sweep removes what the manifest does not name. What it removed is told nobody.
func (f files) sweep(m api.Manifest) error {
	_, e := f.drive.Sweep(m)
	return because(e)
}
