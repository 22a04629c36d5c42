package ship

import (
	"annals/api"
	"annals/disk"
)

const (
	noteName  = "FOLLOW"
	freshName = "FOLLOW.tmp"
)

// put makes the note the disk's file FOLLOW, at one stroke.
func (n note) put(d *disk.Disk) api.Errno {
	b := n.write()
	if len(b) > d.Free() {
		return api.ErrFull
	}
	steps := []func() api.Errno{
		func() api.Errno { return d.Create(freshName) },
		func() api.Errno { return d.Append(freshName, b) },
		func() api.Errno { return d.Sync(freshName) },
		func() api.Errno { return d.Rename(freshName, noteName) },
		d.SyncDir,
	}
	for _, step := range steps {
		if e := step(); e != api.OK {
			return e
		}
	}
	return api.OK
}

// settle takes the mark of loading off the disk's file FOLLOW, which says just this note.
func (n note) settle(d *disk.Disk) api.Errno {
	return d.Truncate(noteName, len(note{epoch: n.epoch}.write()))
}

// clearFresh removes what a crash left of a file FOLLOW that was being made.
func clearFresh(d *disk.Disk) api.Errno {
	e := d.Remove(freshName)
	if e == api.ErrMissing {
		return api.OK
	}
	if e != api.OK {
		return e
	}
	return d.SyncDir()
}

// loadNote is what the disk's file FOLLOW says; no epoch, if there is none.
func loadNote(d *disk.Disk) (note, api.Errno) {
	// A disk that is down was told ahead: nothing else hinders the reading.
	b, e := d.Read(noteName)
	if e == api.ErrMissing {
		return note{epoch: noEpoch}, api.OK
	}
	n, is := readNote(b)
	if !is {
		return note{}, api.ErrFollow
	}
	return n, api.OK
}
