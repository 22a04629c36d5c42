package console

import (
	"annals/api"
	"annals/export"
	"annals/rewrite"
)

// changing is the command of that name that changes a store; nil: there is none.
func (c *Console) changing(name string) command {
	own := onStore{find: c.ownStore}
	shared := onStore{find: c.openStore}
	switch name {
	case "append":
		return &appendCommand{onStore: own}
	case "import":
		return &importCommand{onStore: own}
	case "sync":
		return &syncCommand{onStore: shared}
	case "rotate":
		return &rotateCommand{onStore: own}
	case "raise":
		return &raiseCommand{onStore: own}
	case "upgrade":
		return &upgradeCommand{onStore: own}
	case "compact":
		return &compactCommand{onStore: shared, compact: c.compact}
	}
	return nil
}

// add appends records, and tells how many the store has now.
func (o *onStore) add(recs []api.Record) ([]string, error) {
	if err := o.store.Append(recs...); err != nil {
		return nil, err
	}
	return numbers(o.store.Stat().Records), nil
}

// segments tells how many segments the store has now, behind a call that answered err.
func (o *onStore) segments(err error) ([]string, error) {
	if err != nil {
		return nil, err
	}
	return numbers(o.store.Stat().Segs), nil
}

type appendCommand struct {
	onStore
	recs []api.Record
}

func (a *appendCommand) form(words *reader) { a.recs = words.records() }

func (a *appendCommand) play() ([]string, error) { return a.add(a.recs) }

type importCommand struct {
	onStore
	oneLiteral
}

func (i *importCommand) play() ([]string, error) {
	recs, e := export.ReadRecords([]byte(i.literal))
	if e != api.OK {
		return nil, e
	}
	return i.add(recs)
}

type syncCommand struct {
	onStore
	bare
}

func (s *syncCommand) play() ([]string, error) { return nil, s.store.Sync() }

type rotateCommand struct {
	onStore
	bare
}

func (r *rotateCommand) play() ([]string, error) { return r.segments(r.store.Rotate()) }

type raiseCommand struct {
	onStore
	oneNumber
}

func (r *raiseCommand) play() ([]string, error) { return r.segments(r.store.Raise(r.number)) }

type upgradeCommand struct {
	onStore
	bare
}

func (u *upgradeCommand) play() ([]string, error) { return reported(rewrite.Upgrade(u.store)) }

type compactCommand struct {
	onStore
	bare
	compact func() (api.Report, error)
}

func (c *compactCommand) play() ([]string, error) { return reported(c.compact()) }

// reported is a report as a command tells it, or why there is none.
func reported(r api.Report, err error) ([]string, error) {
	if err != nil {
		return nil, err
	}
	return numbers(r.Before, r.After, r.Sagas, r.Segs0, r.Segs1, r.Bytes0, r.Bytes1), nil
}
