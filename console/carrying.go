package console

import (
	"strconv"

	"annals/api"
	"annals/text"
)

// carrying is the command of that name that an engine plays; nil: there is none.
func (c *Console) carrying(name string) command {
	e := onEngine{find: c.openEngine}
	switch name {
	case "start":
		return &startCommand{onEngine: e}
	case "next":
		return &nextCommand{onEngine: e}
	case "reply":
		return &replyCommand{onEngine: e}
	case "out":
		return &outCommand{onEngine: e}
	}
	return nil
}

type startCommand struct {
	onEngine
	id   int
	plan string
	data []byte
}

func (s *startCommand) form(words *reader) {
	s.id = words.number()
	s.plan = words.name()
	if words.more() {
		s.data = words.data()
	}
}

func (s *startCommand) play() ([]string, error) {
	return nil, s.engine.Begin(s.id, s.plan, s.data)
}

type nextCommand struct {
	onEngine
	bare
}

func (n *nextCommand) play() ([]string, error) {
	call, some, err := n.engine.Next()
	if err != nil {
		return nil, err
	}
	if !some {
		return []string{"none"}, nil
	}
	way := "do"
	if call.Undo {
		way = "undo"
	}
	return []string{
		strconv.Itoa(call.Saga), strconv.Itoa(call.Step), way,
		strconv.Itoa(call.Try), call.Name, text.Quote(string(call.Data)),
	}, nil
}

type replyCommand struct {
	onEngine
	saga   int
	answer api.Answer
}

func (r *replyCommand) form(words *reader) {
	r.saga = words.number()
	r.answer.Outcome = words.choice(outcomeOf)
	if words.more() {
		r.answer.Code = words.number()
	}
	if words.more() {
		r.answer.Data = words.data()
	}
}

func (r *replyCommand) play() ([]string, error) {
	return nil, r.engine.Reply(r.saga, r.answer)
}

// outcomeOf is a participant's answer by its name; 0: there is none.
func outcomeOf(name string) int {
	switch name {
	case "done":
		return api.RDone
	case "again":
		return api.RAgain
	case "refused":
		return api.RRefused
	case "lost":
		return api.RLost
	}
	return 0
}

type outCommand struct {
	onEngine
	bare
}

func (o *outCommand) play() ([]string, error) { return numbers(o.engine.Out()...), nil }
