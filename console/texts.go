package console

import (
	"strconv"

	"annals/api"
	"annals/cjson"
	"annals/export"
	"annals/lift"
	"annals/plan"
	"annals/text"
	"annals/wire"
)

// texts is the command of that name that needs no disk; nil: there is none.
func texts(name string) command {
	switch name {
	case "json":
		return &jsonCommand{}
	case "state":
		return &stateCommand{}
	case "plan":
		return &planCommand{}
	case "name":
		return &nameCommand{}
	case "clip":
		return &clipCommand{}
	case "crc":
		return &crcCommand{}
	case "up":
		return &upCommand{}
	case "down":
		return &downCommand{}
	}
	return nil
}

type jsonCommand struct {
	anytime
	oneLiteral
}

func (j *jsonCommand) play() ([]string, error) {
	b, e, at := cjson.Canon([]byte(j.literal))
	if e != api.OK {
		return nil, &placed{e, at}
	}
	return []string{string(b)}, nil
}

type stateCommand struct {
	anytime
	oneLiteral
}

func (s *stateCommand) play() ([]string, error) {
	st, e := export.ReadState([]byte(s.literal))
	if e != api.OK {
		return nil, e
	}
	return canonical(export.State(st))
}

type planCommand struct {
	anytime
	oneLiteral
}

func (p *planCommand) play() ([]string, error) {
	read, e, at := plan.Parse(p.literal)
	if e != api.OK {
		return nil, &placed{e, at}
	}
	line, e := plan.Print(read)
	if e != api.OK {
		return nil, e
	}
	return []string{text.Quote(line)}, nil
}

type nameCommand struct {
	anytime
	oneLiteral
}

func (n *nameCommand) play() ([]string, error) {
	e, at := text.Name(n.literal)
	if e != api.OK {
		return nil, &placed{e, at}
	}
	return nil, nil
}

type clipCommand struct {
	anytime
	runes   int
	literal string
}

func (c *clipCommand) form(words *reader) {
	c.runes = words.number()
	c.literal = words.literal()
}

func (c *clipCommand) play() ([]string, error) {
	return []string{text.Quote(text.Clip(c.literal, c.runes))}, nil
}

type crcCommand struct {
	anytime
	oneLiteral
}

func (c *crcCommand) play() ([]string, error) {
	sum := wire.Sum([]byte(c.literal))
	return []string{strconv.FormatUint(uint64(sum), 10)}, nil
}

type upCommand struct {
	anytime
	oneRecord
}

func (u *upCommand) play() ([]string, error) { return lifted(lift.Up(u.record, u.to)) }

type downCommand struct {
	anytime
	oneRecord
}

func (d *downCommand) play() ([]string, error) { return lifted(lift.Down(d.record, d.to)) }

// lifted is one record as a command tells it, or why there is none.
func lifted(r api.Record, e api.Errno) ([]string, error) {
	if e != api.OK {
		return nil, e
	}
	return canonical(export.Records(r))
}
