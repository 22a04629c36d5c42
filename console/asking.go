package console

import (
	"strconv"

	"annals/api"
	"annals/archive"
	"annals/export"
	"annals/replay"
	"annals/rewrite"
)

// asking is the command of that name that tells of a store, and does not change it; nil: there is none.
func (c *Console) asking(name string) command {
	shared := onStore{find: c.openStore}
	switch name {
	case "dead":
		return &deadCommand{onStore: shared}
	case "records":
		return &recordsCommand{onStore: shared}
	case "lookup":
		return &lookupCommand{onStore: shared}
	case "replay":
		return &replayCommand{onStore: shared}
	case "saga":
		return &sagaCommand{onStore: shared}
	case "stat":
		return &statCommand{onStore: shared}
	case "segments":
		return &segmentsCommand{onStore: shared}
	case "backup":
		return &backupCommand{onStore: shared, hold: c.holdArchive}
	}
	return nil
}

type deadCommand struct {
	onStore
	bare
}

func (d *deadCommand) play() ([]string, error) {
	recs, sagas, err := rewrite.Dead(d.store)
	if err != nil {
		return nil, err
	}
	return numbers(recs, sagas), nil
}

type recordsCommand struct {
	onStore
	bare
}

func (r *recordsCommand) play() ([]string, error) { return listed(r.store.Records()) }

type lookupCommand struct {
	onStore
	oneNumber
}

func (l *lookupCommand) play() ([]string, error) { return listed(l.store.Lookup(l.number)) }

// listed is a store's records as a command tells them, or why there are none.
func listed(recs []api.Record, err error) ([]string, error) {
	if err != nil {
		return nil, err
	}
	return canonical(export.Records(recs...))
}

type replayCommand struct {
	onStore
	oneNumber
}

func (r *replayCommand) play() ([]string, error) {
	st, place, err := replay.Run(r.store, r.number)
	if err != nil {
		return nil, err
	}
	parts, err := canonical(export.State(st))
	if err != nil {
		return nil, err
	}
	return append(numbers(place), parts...), nil
}

type sagaCommand struct {
	onStore
	oneNumber
}

func (s *sagaCommand) play() ([]string, error) {
	one, err := replay.One(s.store, s.number)
	if err != nil {
		return nil, err
	}
	recs, err := s.store.Lookup(s.number)
	if err != nil {
		return nil, err
	}
	return canonical(export.State(api.State{Count: len(recs), Sagas: []api.Saga{one}}))
}

type statCommand struct {
	onStore
	bare
}

func (s *statCommand) play() ([]string, error) {
	n := s.store.Stat()
	return numbers(n.Gen, n.V, n.Next, n.Top, n.Segs, n.Records, n.Pending, n.Size, n.Bytes), nil
}

type segmentsCommand struct {
	onStore
	bare
}

func (s *segmentsCommand) play() ([]string, error) {
	var parts []string
	for _, seg := range s.store.Segments() {
		parts = append(parts, strconv.Itoa(seg.Num)+":"+strconv.Itoa(seg.Size)+":"+strconv.Itoa(seg.Count))
	}
	return parts, nil
}

type backupCommand struct {
	onStore
	bare
	hold func([]byte)
}

func (b *backupCommand) play() ([]string, error) {
	whole, err := archive.Backup(b.store)
	if err != nil {
		return nil, err
	}
	b.hold(whole)
	return numbers(len(whole)), nil
}
