package ship

import "annals/api"

// Take takes an answer; false: it is stale, or has nothing new, and nothing has changed.
func (f *Follower) Take(msg []byte) (bool, error) {
	took, err := f.take(msg)
	if err != nil {
		return false, &Fault{Why: "take", Err: err}
	}
	return took, nil
}

func (f *Follower) take(msg []byte) (bool, error) {
	if f.disk.Down() {
		return false, api.ErrDown
	}
	a, is := readAnswer(msg)
	if !is {
		return false, api.ErrMessage
	}
	switch {
	case a.epoch < f.note.epoch:
		return false, nil
	case a.epoch > f.note.epoch:
		return f.begin(a)
	case f.note.loading:
		return f.goOn(a)
	}
	return f.grow(a)
}

// grow takes an answer of the epoch whose list the store holds a beginning of.
func (f *Follower) grow(a answer) (bool, error) {
	if a.from != f.have() || len(a.recs) == 0 {
		return false, nil
	}
	if err := f.store.Append(a.recs...); err != nil {
		return false, err
	}
	if err := f.store.Sync(); err != nil {
		return false, err
	}
	return true, nil
}

// begin takes an answer of a newer epoch. That a load has begun lasts ahead of all that is gathered, so that no crash lets the follower take its old list for one of that epoch.
func (f *Follower) begin(a answer) (bool, error) {
	if a.from != 0 {
		return false, nil
	}
	n := note{epoch: a.epoch, loading: true}
	if e := n.put(f.disk); e != api.OK {
		return false, e
	}
	f.note, f.load = n, load{}
	return f.gather(a)
}

// goOn takes an answer of the epoch that is being loaded. An empty list is loaded by an answer without a record; behind a record such an answer brings nothing.
func (f *Follower) goOn(a answer) (bool, error) {
	if a.from != f.have() || len(a.recs) == 0 && f.have() > 0 {
		return false, nil
	}
	return f.gather(a)
}

// gather lays an answer's records behind those that were gathered, and ends the load once there are enough.
func (f *Follower) gather(a answer) (bool, error) {
	more := f.load
	if len(more.recs) == 0 {
		more.mark = a.total
	}
	more.recs = append(more.recs, a.recs...)
	if len(more.recs) < more.mark {
		f.load = more
		return true, nil
	}
	return f.finish(more.recs, a.top)
}

// finish puts what was gathered in the place of the store's list. If it is refused, the follower has what it had gathered before.
func (f *Follower) finish(recs []api.Record, top int) (bool, error) {
	if err := f.store.Replace(version, top, recs...); err != nil {
		return false, err
	}
	if e := f.note.settle(f.disk); e != api.OK {
		return false, e
	}
	f.note.loading, f.load = false, load{}
	return true, nil
}
