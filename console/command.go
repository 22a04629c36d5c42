package console

import (
	"annals/api"
	"annals/engine"
	"annals/store"
)

// command is what a line asks for. It takes the words of its form, and is then played, if what it wants is open.
type command interface {
	form(*reader)
	ready() api.Errno
	play() ([]string, error) // what it tells behind the ok, or why it is refused
}

// command is the command that a word names, made anew; nil: it names none.
func (c *Console) command(w api.Word) command {
	if w.Kind != api.WName {
		return nil
	}
	for _, group := range [...]func(string) command{c.opening, c.changing, c.asking, c.carrying, c.machine, texts} {
		if cmd := group(w.Text); cmd != nil {
			return cmd
		}
	}
	return nil
}

// What commands want to be open; each command embeds one of these.

// anytime is what commands share that want nothing open.
type anytime struct{}

func (anytime) ready() api.Errno { return api.OK }

// letting is what commands share that let go of what is open, whatever comes of them.
type letting struct {
	letGo func()
}

func (l *letting) ready() api.Errno {
	l.letGo()
	return api.OK
}

// onStore is what commands share that want a store.
type onStore struct {
	find  func() (*store.Store, api.Errno)
	store *store.Store
}

func (o *onStore) ready() api.Errno {
	var e api.Errno
	o.store, e = o.find()
	return e
}

// onEngine is what commands share that want an engine.
type onEngine struct {
	find   func() (*engine.Engine, api.Errno)
	engine *engine.Engine
}

func (o *onEngine) ready() api.Errno {
	var e api.Errno
	o.engine, e = o.find()
	return e
}

// The forms that several commands have; each of these embeds one of them.

// bare is the form without a word.
type bare struct{}

func (bare) form(*reader) {}

// oneNumber is the form NUM.
type oneNumber struct {
	number int
}

func (o *oneNumber) form(r *reader) { o.number = r.number() }

// oneLiteral is the form LIT.
type oneLiteral struct {
	literal string
}

func (o *oneLiteral) form(r *reader) { o.literal = r.literal() }

// withOptions is the form NUM NUM: a version and a limit.
type withOptions struct {
	options api.Options
}

func (w *withOptions) form(r *reader) { w.options = r.options() }

// oneRecord is the form NUM REC: a version, and the record that is to be taken there.
type oneRecord struct {
	to     int
	record api.Record
}

func (o *oneRecord) form(r *reader) {
	o.to = r.number()
	o.record = r.record()
}
