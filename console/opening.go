package console

import (
	"annals/api"
	"annals/archive"
	"annals/disk"
	"annals/engine"
	"annals/store"
)

// opening is the command of that name that opens something, lets it go, or changes the disk for another; nil: there is none.
func (c *Console) opening(name string) command {
	l := letting{letGo: c.letGo}
	switch name {
	case "open":
		return &openCommand{letting: l, disk: c.drive(), hold: c.holdStore}
	case "restore":
		return &restoreCommand{letting: l, disk: c.drive(), archive: c.archive, hold: c.holdStore}
	case "run":
		return &runCommand{letting: l, disk: c.drive(), hold: c.holdEngine}
	case "blank":
		return &blankCommand{letting: l, quota: c.quota, hold: c.holdDisk}
	case "crash":
		return &crashCommand{letting: l, quota: c.quota, disk: c.drive(), hold: c.holdDisk}
	case "close":
		return &closeCommand{onStore: onStore{find: c.openStore}, letGo: c.letGo}
	}
	return nil
}

type openCommand struct {
	letting
	withOptions
	disk *disk.Disk
	hold func(*store.Store)
}

func (o *openCommand) play() ([]string, error) {
	s, err := store.Open(o.disk, o.options)
	if err != nil {
		return nil, err
	}
	o.hold(s)
	return numbers(s.Stat().Records), nil
}

type restoreCommand struct {
	letting
	withOptions
	disk    *disk.Disk
	archive []byte
	hold    func(*store.Store)
}

func (r *restoreCommand) play() ([]string, error) {
	s, err := archive.Restore(r.disk, r.options, r.archive)
	if err != nil {
		return nil, err
	}
	r.hold(s)
	return numbers(s.Stat().Records), nil
}

type runCommand struct {
	letting
	options api.Options
	plans   []string
	disk    *disk.Disk
	hold    func(*engine.Engine)
}

func (r *runCommand) form(words *reader) {
	r.options = words.options()
	for words.more() {
		r.plans = append(r.plans, words.literal())
	}
}

func (r *runCommand) play() ([]string, error) {
	e, err := engine.Open(r.disk, r.options, r.plans...)
	if err != nil {
		return nil, err
	}
	r.hold(e)
	return numbers(len(e.State().Sagas)), nil
}

type blankCommand struct {
	letting
	bare
	quota int
	hold  func(*disk.Disk)
}

func (b *blankCommand) play() ([]string, error) {
	d, e := disk.New(b.quota)
	if e != api.OK {
		return nil, e
	}
	b.hold(d)
	return nil, nil
}

type crashCommand struct {
	letting
	keep  int
	cuts  []api.Cut
	quota int
	disk  *disk.Disk
	hold  func(*disk.Disk)
}

func (c *crashCommand) form(words *reader) {
	c.keep = words.number()
	for words.more() {
		var cut api.Cut
		cut.Keep = words.number()
		words.sign(",")
		cut.Zero = words.number()
		c.cuts = append(c.cuts, cut)
	}
}

func (c *crashCommand) play() ([]string, error) {
	files := c.disk.Crash(c.keep, c.cuts...)
	d, e := disk.Load(c.quota, files)
	if e != api.OK {
		return nil, e
	}
	c.hold(d)
	return numbers(len(files)), nil
}

// closeCommand wants a store, be it an engine's, as there would be nothing to let go of.
type closeCommand struct {
	onStore
	bare
	letGo func()
}

func (c *closeCommand) play() ([]string, error) {
	c.letGo()
	return nil, nil
}
