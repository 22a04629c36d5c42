package saga_test

import (
	"bytes"
	"fmt"
	"slices"

	"annals/api"
	"annals/record"
)

// tell is all that a saga holds, as a text; nil and empty lists are the same.
func tell(s api.Saga) string { return fmt.Sprintf("%+v", s) }

func sameLists(a, b [][]byte) bool { return slices.EqualFunc(a, b, bytes.Equal) }

// equal tells whether two sagas hold the same.
func equal(a, b api.Saga) bool {
	numbers := func(s api.Saga) [12]int {
		flight := 0
		if s.Flight {
			flight = 1
		}
		return [...]int{s.ID, s.Count, s.Pivot, s.Begun, s.At, s.Phase, s.Next, flight, s.Tries, s.FailStep, s.FailCode, len(s.Name)}
	}
	return numbers(a) == numbers(b) && a.Name == b.Name &&
		bytes.Equal(a.Input, b.Input) && bytes.Equal(a.Fail, b.Fail) &&
		sameLists(a.Outs, b.Outs) && sameLists(a.Undos, b.Undos)
}

func sameRecs(a, b []api.Record) bool { return slices.EqualFunc(a, b, record.Same) }

// A chronicle is the second reading of the chapter: the records that were taken, all of version 3, from the begin on. What a saga's fields say is reckoned from the whole list, never carried on.
type chronicle []api.Record

func (c chronicle) of(kind int) []api.Record {
	var out []api.Record
	for _, r := range c {
		if r.Kind == kind {
			out = append(out, r)
		}
	}
	return out
}

func datas(recs []api.Record) [][]byte {
	var out [][]byte
	for _, r := range recs {
		out = append(out, r.Data)
	}
	return out
}

// tries is how often what is on turn has begun: the starts and undos since the last record that gave the turn away.
func (c chronicle) tries() int {
	n := 0
	for _, r := range c {
		switch {
		case r.Kind == api.KStart, r.Kind == api.KUndo:
			n = min(n+1, api.MaxTry)
		case r.Kind == api.KDone, r.Kind == api.KUndone, r.Last == 1:
			n = 0
		}
	}
	return n
}

func (c chronicle) saga() api.Saga {
	first, last := c[0], c[len(c)-1]
	done, undone, ends := c.of(api.KDone), c.of(api.KUndone), c.of(api.KEnd)
	s := api.Saga{
		ID: first.Saga, Name: first.Name, Count: first.Count, Pivot: first.Pivot, Input: first.Data,
		Begun: first.At, At: last.At,
		Phase: api.Running, Next: len(done), Flight: last.Kind == api.KStart || last.Kind == api.KUndo, Tries: c.tries(),
		Outs: datas(done), Undos: datas(undone),
	}
	for _, r := range c {
		if r.Last == 1 {
			s.Phase, s.Next = api.Undoing, len(done)-len(undone)
			s.FailStep, s.FailCode, s.Fail = r.Step, r.Code, r.Data
		}
	}
	if len(ends) > 0 {
		s.Phase += 2
	}
	return s
}

// refused is the chapter's list of refusals, row by row; the record is valid and of version 3.
func refused(s api.Saga, r api.Record) api.Errno {
	running, undoing := s.Phase == api.Running, s.Phase == api.Undoing
	is := func(kinds ...int) bool { return slices.Contains(kinds, r.Kind) }
	const b, st, d, f, u, ud, e = api.KBegin, api.KStart, api.KDone, api.KFail, api.KUndo, api.KUndone, api.KEnd
	rows := [...]struct {
		applies bool
		e       api.Errno
	}{
		{r.Saga != s.ID, api.ErrOther},
		{is(b), api.ErrBegin},
		{s.Phase == api.Whole || s.Phase == api.Undone, api.ErrEnded},
		{is(st, d) && undoing, api.ErrPhase},
		{is(u, ud) && running, api.ErrPhase},
		{is(f) && r.Last == 1 && undoing, api.ErrPhase},
		{is(st, u, e) && s.Flight, api.ErrFlight},
		{is(d, f, ud) && !s.Flight, api.ErrFlight},
		{is(st, d, f) && running && (r.Step != s.Next || s.Next == s.Count), api.ErrStep},
		{is(u, ud, f) && undoing && r.Step != s.Next-1, api.ErrStep},
		{is(e) && running && s.Next != s.Count, api.ErrStep},
		{is(e) && undoing && s.Next != 0, api.ErrStep},
		{is(st, u) && r.Try != min(s.Tries+1, 1000), api.ErrTry},
		{is(f) && r.Last == 1 && s.Pivot != 0 && r.Step >= s.Pivot, api.ErrPivot},
		{is(e) && running && r.Code != 0 && r.Code != 1, api.ErrCode},
		{is(e) && undoing && r.Code != 0 && r.Code != 2, api.ErrCode},
	}
	for _, row := range rows {
		if row.applies {
			return row.e
		}
	}
	return api.OK
}

// taken is the chronicle with one more record, if it may come next.
func (c chronicle) taken(r api.Record) (chronicle, bool) {
	if refused(c.saga(), r) != api.OK {
		return nil, false
	}
	return append(slices.Clip(c), r), true
}

// reach is a shortest chronicle of every saga that the records lead to, in which nothing is tried more than twice; those with fewer records come first.
func reach(begins, recs []api.Record) []chronicle {
	var all []chronicle
	seen := map[string]bool{}
	add := func(c chronicle) {
		s := c.saga()
		if key := tell(s); s.Tries <= 2 && !seen[key] {
			seen[key] = true
			all = append(all, c)
		}
	}
	for _, b := range begins {
		add(chronicle{b})
	}
	for i := 0; i < len(all); i++ {
		for _, r := range recs {
			if next, ok := all[i].taken(r); ok {
				add(next)
			}
		}
	}
	return all
}

// begins is begins of saga 7 with up to so many steps, each pivot and the times 0 and 1.
func begins(count int) []api.Record {
	var out []api.Record
	for n := 1; n <= count; n++ {
		for pivot := range n + 1 {
			for at := range 2 {
				out = append(out, api.Record{V: 3, Kind: api.KBegin, Saga: 7, At: at, Count: n, Pivot: pivot, Name: "buy"})
			}
		}
	}
	return out
}

// followers is records of saga 7, none of them a begin, with the steps from 0 up to one limit, the tries from 1 up to another, and the times 0 and 1.
func followers(steps, tries int) []api.Record {
	var out []api.Record
	for at := range 2 {
		add := func(r api.Record) {
			r.V, r.Saga, r.At = 3, 7, at
			out = append(out, r)
		}
		for step := range steps + 1 {
			for try := 1; try <= tries; try++ {
				add(api.Record{Kind: api.KStart, Step: step, Try: try})
				add(api.Record{Kind: api.KUndo, Step: step, Try: try})
			}
			add(api.Record{Kind: api.KDone, Step: step})
			add(api.Record{Kind: api.KUndone, Step: step})
			for last := range 2 {
				for code := range 2 {
					add(api.Record{Kind: api.KFail, Step: step, Last: last, Code: code})
					add(api.Record{Kind: api.KFail, Step: step, Last: last, Code: code, Data: []byte("f")})
				}
			}
		}
		for code := range 3 {
			add(api.Record{Kind: api.KEnd, Code: code})
		}
	}
	return out
}

// told is followers with data of their own, by which each out and each undo is known.
func told(recs []api.Record) []api.Record {
	for i, r := range recs {
		if r.Kind == api.KDone || r.Kind == api.KUndone {
			recs[i].Data = fmt.Appendf(nil, "kind %d step %d", r.Kind, r.Step)
		}
	}
	return recs
}

// others is records that no saga 7 takes: begins, and records of other sagas.
func others() []api.Record {
	out := begins(2)
	for _, r := range slices.Concat(begins(1), followers(1, 1)) {
		r.Saga = 8
		out = append(out, r)
	}
	return out
}
