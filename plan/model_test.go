package plan_test

import (
	"bytes"
	"fmt"
	"regexp"
	"slices"
	"strings"

	"annals/api"
	"annals/saga"
	"annals/text"
)

func isName(s string) bool {
	e, _ := text.Name(s)
	return e == api.OK
}

func samePlan(a, b api.Plan) bool {
	return a.Name == b.Name && a.Pivot == b.Pivot && slices.Equal(a.Steps, b.Steps)
}

func tell(s api.Saga) string { return fmt.Sprintf("%+v", s) }

func sameCall(a, b api.Call) bool {
	data := bytes.Equal(a.Data, b.Data)
	a.Data, b.Data = nil, nil
	return data && fmt.Sprint(a) == fmt.Sprint(b)
}

// secondFault is the second reading of 15.1: the chapter's list, row by row, and the number of the step that a row is about (-1: none).
func secondFault(p api.Plan) (api.Errno, int) {
	type row struct {
		applies bool
		e       api.Errno
		step    int
	}
	rows := []row{
		{!isName(p.Name), api.ErrLabel, -1},
		{len(p.Steps) < 1 || len(p.Steps) > 32, api.ErrMany, -1},
		{p.Pivot < 0 || p.Pivot > len(p.Steps), api.ErrBound, -1},
	}
	count := map[string]int{}
	for i, s := range p.Steps {
		place := 0 // ahead of the pivot; 1: the pivot; 2: behind it
		if p.Pivot > 0 && i+1 == p.Pivot {
			place = 1
		} else if p.Pivot > 0 && i+1 > p.Pivot {
			place = 2
		}
		again := count[s.Do] > 0 || s.Undo != "" && (count[s.Undo] > 0 || s.Undo == s.Do)
		rows = append(rows,
			row{!isName(s.Do), api.ErrLabel, i},
			row{s.Undo != "" && !isName(s.Undo), api.ErrLabel, i},
			row{place == 0 && s.Undo == "", api.ErrUndo, i},
			row{place != 0 && s.Undo != "", api.ErrUndo, i},
			row{place < 2 && (s.Tries < 1 || s.Tries > 1000), api.ErrBound, i},
			row{place == 2 && s.Tries != 0, api.ErrBound, i},
			row{again, api.ErrAgain, i},
		)
		count[s.Do]++
		count[s.Undo]++
	}
	for _, r := range rows {
		if r.applies {
			return r.e, r.step
		}
	}
	return api.OK, -1
}

// secondText is a sound plan's text.
func secondText(p api.Plan) string {
	out := ""
	for i, s := range p.Steps {
		tries := fmt.Sprintf("*%d", s.Tries)
		if s.Tries < 2 {
			tries = ""
		}
		out += ", " + s.Do + tries
		if s.Undo != "" {
			out += "~" + s.Undo
		}
		if p.Pivot == i+1 {
			out += "!"
		}
	}
	return p.Name + ": " + out[2:]
}

// sentence is a plan's words, one letter a word: n a name, d a number, a sign itself.
var sentence = regexp.MustCompile(`^n:n(\*d)?(~n|!)?(,n(\*d)?(~n|!)?)*$`)

func isSentence(shape string) bool {
	return sentence.MatchString(shape) && strings.Count(shape, "!") <= 1
}

// begins tells whether these words can be gone on with to a plan's.
func begins(shape string) bool {
	return slices.ContainsFunc([]string{"", "n", "d", ":n", "n:n"}, func(rest string) bool { return isSentence(shape + rest) })
}

func shapeOf(words []api.Word) string {
	out := ""
	for _, w := range words {
		switch w.Kind {
		case api.WName:
			out += "n"
		case api.WNumber:
			out += "d"
		case api.WLiteral:
			out += "l"
		default:
			out += w.Text
		}
	}
	return out
}

// secondParse is the second reading of 15.3.
func secondParse(line string) (api.Plan, api.Errno, int) {
	if len(line) > 65536 {
		return api.Plan{}, api.ErrLong, 65536
	}
	words, e, at := text.Words(line)
	if e != api.OK {
		return api.Plan{}, e, at
	}
	shape := shapeOf(words)
	for i, w := range words {
		if !begins(shape[:i+1]) {
			return api.Plan{}, api.ErrLine, w.At
		}
	}
	if !isSentence(shape) {
		return api.Plan{}, api.ErrLine, len(line)
	}
	p, places := said(words)
	if e, step := secondFault(p); e == api.ErrMany {
		return api.Plan{}, e, places[32]
	} else if e != api.OK {
		return api.Plan{}, e, places[step]
	}
	want := secondText(p)
	for i := range max(len(line), len(want)) {
		if i >= len(line) || i >= len(want) || line[i] != want[i] {
			return api.Plan{}, api.ErrLine, i
		}
	}
	return p, api.OK, 0
}

// said is the plan that the words of a sentence say, and the place of each step's Do.
func said(words []api.Word) (api.Plan, []int) {
	p := api.Plan{Name: words[0].Text}
	var places []int
	var numbered []bool
	for i, w := range words {
		here := len(p.Steps) - 1
		switch {
		case w.Kind == api.WNumber:
			p.Steps[here].Tries, numbered[here] = w.Num, true
		case w.Text == "!":
			p.Pivot = here + 1
		case w.Kind == api.WName && i > 0 && words[i-1].Text == "~":
			p.Steps[here].Undo = w.Text
		case w.Kind == api.WName && i > 0:
			p.Steps, places, numbered = append(p.Steps, api.Step{Do: w.Text}), append(places, w.At), append(numbered, false)
		}
	}
	for i := range p.Steps {
		if behind := p.Pivot > 0 && i >= p.Pivot; !numbered[i] && !behind {
			p.Steps[i].Tries = 1
		}
	}
	return p, places
}

// secondNext is the chapter's table of 15.4, for a saga that fits.
func secondNext(p api.Plan, s api.Saga) api.Action {
	step := func(i int) api.Step {
		if i < 0 || i >= len(p.Steps) {
			return api.Step{}
		}
		return p.Steps[i]
	}
	next := s.Tries + 1
	if next > 1000 {
		next = 1000
	}
	running, undoing, on, back := s.Phase == api.Running, s.Phase == api.Undoing, s.Next, s.Next-1
	for _, row := range []struct {
		applies bool
		a       api.Action
	}{
		{running && !s.Flight && s.Next < s.Count, api.Action{Kind: 1, Step: on, Try: next, Name: step(on).Do}},
		{running && s.Flight, api.Action{Kind: 2, Step: on, Try: s.Tries, Name: step(on).Do}},
		{running && !s.Flight && s.Next == s.Count, api.Action{Kind: 5}},
		{undoing && !s.Flight && s.Next > 0, api.Action{Kind: 3, Step: back, Try: next, Name: step(back).Undo}},
		{undoing && s.Flight, api.Action{Kind: 4, Step: back, Try: s.Tries, Name: step(back).Undo}},
		{undoing && !s.Flight && s.Next == 0, api.Action{Kind: 6}},
		{s.Phase == api.Whole || s.Phase == api.Undone, api.Action{}},
	} {
		if row.applies {
			row.a.Saga = s.ID
			return row.a
		}
	}
	return api.Action{Kind: -1}
}

// secondAsk is what 15.5 says of a saga that fits.
func secondAsk(p api.Plan, s api.Saga) (api.Call, api.Errno) {
	if !s.Flight {
		return api.Call{}, api.ErrFlight
	}
	a := secondNext(p, s)
	c := api.Call{Saga: s.ID, Step: a.Step, Undo: s.Phase == api.Undoing, Try: s.Tries, Name: a.Name}
	switch {
	case c.Undo:
		c.Data = s.Outs[c.Step]
	case c.Step == 0:
		c.Data = s.Input
	default:
		c.Data = s.Outs[c.Step-1]
	}
	return c, api.OK
}

// secondAnswer is what 15.6 says of a saga that fits.
func secondAnswer(p api.Plan, s api.Saga, a api.Answer) (api.Record, bool, api.Errno) {
	switch {
	case len(a.Data) > 16384:
		return api.Record{}, false, api.ErrLong
	case !s.Flight:
		return api.Record{}, false, api.ErrFlight
	case a.Outcome < 1 || a.Outcome > 4:
		return api.Record{}, false, api.ErrOutcome
	case a.Outcome == 4:
		return api.Record{}, false, api.OK
	}
	step := secondNext(p, s).Step
	r := api.Record{V: 3, Kind: api.KFail, Saga: s.ID, Step: step, Data: a.Data, Code: a.Code}
	forGood := s.Phase == api.Running && (p.Pivot == 0 || step+1 <= p.Pivot)
	switch {
	case a.Outcome == 1 && s.Phase == api.Running:
		r.Kind, r.Code = api.KDone, 0
	case a.Outcome == 1:
		r.Kind, r.Code = api.KUndone, 0
	case a.Outcome == 2 && forGood && s.Tries >= p.Steps[step].Tries, a.Outcome == 3 && forGood:
		r.Last = 1
	}
	return r, true, api.OK
}

// begun is a saga of the plan that has just begun.
func begun(p api.Plan, input string) api.Saga {
	s, e := saga.Begin(api.Record{V: 3, Kind: api.KBegin, Saga: 7, At: 4, Name: p.Name, Count: len(p.Steps), Pivot: p.Pivot, Data: []byte(input)})
	if e != api.OK {
		panic(e)
	}
	return s
}

// plans is plans of one to so many steps, with each pivot and with several tries.
func plans(count int) []api.Plan {
	var out []api.Plan
	for n := 1; n <= count; n++ {
		for pivot := range n + 1 {
			for tries := 1; tries <= 3; tries++ {
				p := api.Plan{Name: "buy", Pivot: pivot}
				for i := range n {
					s := api.Step{Do: fmt.Sprintf("do%d", i), Undo: fmt.Sprintf("undo%d", i), Tries: 1 + (tries+i)%3}
					if pivot > 0 && i+1 >= pivot {
						s.Undo = ""
					}
					if pivot > 0 && i+1 > pivot {
						s.Tries = 0
					}
					p.Steps = append(p.Steps, s)
				}
				out = append(out, p)
			}
		}
	}
	return out
}

// reach is every saga of the plan that records lead to in which nothing is tried more than four times; the data tells what it is of.
func reach(p api.Plan) []api.Saga {
	all := []api.Saga{begun(p, "in")}
	seen := map[string]bool{tell(all[0]): true}
	for i := 0; i < len(all); i++ {
		for _, r := range followers(len(p.Steps)) {
			next, e := saga.Apply(all[i], r)
			if key := tell(next); e == api.OK && next.Tries <= 4 && !seen[key] {
				seen[key] = true
				all = append(all, next)
			}
		}
	}
	return all
}

// followers is records of saga 7 that may come behind its begin.
func followers(count int) []api.Record {
	var out []api.Record
	for step := range count {
		for try := 1; try <= 5; try++ {
			out = append(out, api.Record{Kind: api.KStart, Step: step, Try: try}, api.Record{Kind: api.KUndo, Step: step, Try: try})
		}
		out = append(out,
			api.Record{Kind: api.KDone, Step: step, Data: fmt.Appendf(nil, "out %d", step)},
			api.Record{Kind: api.KUndone, Step: step, Data: fmt.Appendf(nil, "undone %d", step)},
			api.Record{Kind: api.KFail, Step: step},
			api.Record{Kind: api.KFail, Step: step, Last: 1, Code: -step, Data: []byte("fail")},
		)
	}
	out = append(out, api.Record{Kind: api.KEnd})
	for i := range out {
		out[i].V, out[i].Saga, out[i].At = 3, 7, 9
	}
	return out
}
