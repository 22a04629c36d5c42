package ship

import (
	"annals/api"
	"annals/disk"
	"annals/store"
)

// Follower has a store of its own, which follows a leader's.
type Follower struct {
	disk  *disk.Disk
	store *store.Store
	note  note // as it stands on the disk
	load  load
}

// load is what a follower has gathered of a new epoch's list.
type load struct {
	recs []api.Record
	mark int // at how many records the load ends; once there is a record
}

// Open makes a follower on the disk, or comes back to it.
func Open(d *disk.Disk, limit int) (*Follower, error) {
	f, err := open(d, limit)
	if err != nil {
		return nil, &Fault{Why: "open", Err: err}
	}
	return f, nil
}

func open(d *disk.Disk, limit int) (*Follower, error) {
	s, err := store.Open(d, api.Options{V: version, Limit: limit})
	if err != nil {
		return nil, err
	}
	// A store that has the version already is left as it is.
	if err := s.Raise(version); err != nil {
		return nil, err
	}
	if e := clearFresh(d); e != api.OK {
		return nil, e
	}
	n, e := loadNote(d)
	if e != api.OK {
		return nil, e
	}
	return &Follower{disk: d, store: s, note: n}, nil
}

// Ask is what the follower asks the leader next.
func (f *Follower) Ask() ([]byte, error) {
	if f.disk.Down() {
		return nil, &Fault{Why: "ask", Err: api.ErrDown}
	}
	return writeAsk(f.Place()), nil
}

// Place tells how far the follower is.
func (f *Follower) Place() api.Place {
	return api.Place{Epoch: f.note.epoch, Have: f.have(), Loading: f.note.loading}
}

// have is how many records of the epoch's list there are.
func (f *Follower) have() int {
	switch {
	case f.note.epoch == noEpoch:
		return 0
	case f.note.loading:
		return len(f.load.recs)
	}
	return f.store.Stat().Records
}

// Store is the follower's store.
func (f *Follower) Store() *store.Store { return f.store }
