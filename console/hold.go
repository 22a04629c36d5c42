package console

import (
	"annals/api"
	"annals/disk"
	"annals/engine"
	"annals/rewrite"
	"annals/store"
)

// The methods of this file are what commands call back: they are handed out as method values.

// drive is the console's disk. A console that New did not make begins with one that has no room.
func (c *Console) drive() *disk.Disk {
	if c.disk == nil {
		c.disk, _ = disk.New(c.quota)
	}
	return c.disk
}

func (c *Console) holdDisk(d *disk.Disk) { c.disk = d }

// letGo leaves nothing open.
func (c *Console) letGo() { c.store, c.engine = nil, nil }

func (c *Console) holdStore(s *store.Store) { c.store, c.engine = s, nil }

func (c *Console) holdEngine(e *engine.Engine) { c.store, c.engine = e.Store(), e }

func (c *Console) holdArchive(b []byte) { c.archive = b }

// openStore is the store that is open, be it an engine's.
func (c *Console) openStore() (*store.Store, api.Errno) {
	if c.store == nil {
		return nil, api.ErrClosed
	}
	return c.store, api.OK
}

// ownStore is the store that is open, unless it is an engine's: nobody but the engine may change that one's list.
func (c *Console) ownStore() (*store.Store, api.Errno) {
	if c.engine != nil {
		return nil, api.ErrBusy
	}
	return c.openStore()
}

// openEngine is the engine that is open.
func (c *Console) openEngine() (*engine.Engine, api.Errno) {
	if c.engine == nil {
		return nil, api.ErrIdle
	}
	return c.engine, api.OK
}

// compact drops what has ended, through the engine, if one is open: it has to forget it too.
func (c *Console) compact() (api.Report, error) {
	if c.engine != nil {
		return c.engine.Compact()
	}
	return rewrite.Compact(c.store)
}
