package lift

import "annals/api"

// What a record of version 1 meant without saying so.
const (
	onlyTry = 1 // a step was begun once
	forGood = 1 // a failure was the last word
)

// way leads from one version to its neighbour.
type way struct {
	from, to int
	name     string
}

// ways stand in the order in which they are gone, those up and then those down, so that one walk through the table finds them all.
var ways = [...]way{
	{1, 2, "1to2"},
	{2, 3, "2to3"},
	{3, 2, "3to2"},
	{2, 1, "2to1"},
}

// step is a way that is to be gone: do takes a record of the way's one version to the other, and asks not what is lost.
type step struct {
	name string
	do   func(api.Record) api.Record
}

// carry goes all steps from the version of r to another.
func carry(r api.Record, to int) api.Record {
	for _, s := range walk(r.V, to) {
		r = s.do(r)
	}
	return r
}

// walk is the steps between two versions, in the order in which they are gone.
func walk(from, to int) []step {
	var steps []step
	up := from < to
	at := from
	for _, w := range ways {
		if at != to && w.from == at && (w.from < w.to) == up {
			steps = append(steps, step{name: w.name, do: deed(w)})
			at = w.to
		}
	}
	return steps
}

// deed is what a way does with a record.
func deed(w way) func(api.Record) api.Record {
	switch [...]int{w.from, w.to} {
	case [...]int{1, 2}:
		return oneToTwo
	case [...]int{2, 3}:
		return twoToThree
	case [...]int{3, 2}:
		return threeToTwo
	}
	return twoToOne
}

func oneToTwo(r api.Record) api.Record {
	r.V = 2
	switch r.Kind {
	case api.KBegin:
		r.Count, r.Name = r.Step, string(r.Data)
		r.Step, r.Data = 0, nil
	case api.KStart, api.KUndo:
		r.Try = onlyTry
	case api.KFail:
		r.Last = forGood
	}
	return r
}

func twoToThree(r api.Record) api.Record {
	r.V = 3
	return r
}

func threeToTwo(r api.Record) api.Record {
	r.V, r.Pivot, r.Code = 2, 0, 0
	return r
}

func twoToOne(r api.Record) api.Record {
	old := api.Record{V: 1, Kind: r.Kind, Saga: r.Saga, Step: r.Step, Data: r.Data}
	if r.Kind == api.KBegin {
		old.Step, old.Data = r.Count, []byte(r.Name)
	}
	return old
}
