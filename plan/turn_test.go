package plan_test

import (
	"fmt"
	"math"
	"testing"

	"annals/api"
	"annals/plan"
	"annals/record"
	"annals/saga"
)

// acted is the record that an action says, if it says one.
func acted(a api.Action) (api.Record, bool) {
	r := api.Record{V: 3, Saga: a.Saga, Step: a.Step, Try: a.Try}
	switch a.Kind {
	case api.AStart:
		r.Kind = api.KStart
	case api.AUndo:
		r.Kind = api.KUndo
	case api.AEndWhole:
		r.Kind, r.Code = api.KEnd, 1
	case api.AEndUndone:
		r.Kind, r.Code = api.KEnd, 2
	default:
		return api.Record{}, false
	}
	return r, true
}

// answers is answers of all outcomes, right and wrong ones.
func answers() []api.Answer {
	var out []api.Answer
	for _, outcome := range []int{math.MinInt, -1, 0, 1, 2, 3, 4, 5, math.MaxInt} {
		out = append(out,
			api.Answer{Outcome: outcome},
			api.Answer{Outcome: outcome, Code: -5, Data: []byte("data")},
			api.Answer{Outcome: outcome, Code: math.MinInt, Data: make([]byte, api.MaxData)},
			api.Answer{Outcome: outcome, Code: math.MaxInt, Data: make([]byte, api.MaxData+1)},
		)
	}
	return out
}

// Promises 15.4 to 15.7: every saga of every plan of up to three steps, and every answer: Next, Ask and Answer tell what the second reading tells, and the records that come of it are taken.
func TestTurnAll(t *testing.T) {
	t.Parallel()
	kinds, lasts := map[int]int{}, map[int]int{}
	for _, p := range plans(3) {
		for _, s := range reach(p) {
			a, e := plan.Next(p, s)
			if want := secondNext(p, s); a != want || e != api.OK {
				t.Fatalf("Next(%+v, %s) = %+v, %d, not %+v", p, tell(s), a, e, want)
			}
			kinds[a.Kind]++
			if r, is := acted(a); is {
				if _, e := saga.Apply(s, r); e != api.OK {
					t.Fatalf("%s does not take %+v: %d", tell(s), r, e)
				}
			}
			c, e := plan.Ask(p, s)
			if want, wantE := secondAsk(p, s); !sameCall(c, want) || e != wantE {
				t.Fatalf("Ask(%+v, %s) = %+v, %d, not %+v, %d", p, tell(s), c, e, want, wantE)
			}
			for _, a := range answers() {
				r, some, e := plan.Answer(p, s, a)
				want, wantSome, wantE := secondAnswer(p, s, a)
				if !record.Same(r, want) || some != wantSome || e != wantE {
					t.Fatalf("Answer(%+v, %s, %d %d) = %+v, %v, %d, not %+v, %v, %d", p, tell(s), a.Outcome, a.Code, r, some, e, want, wantSome, wantE)
				}
				if !some {
					continue
				}
				lasts[2*r.Kind+r.Last]++
				if _, e := saga.Apply(s, r); e != api.OK {
					t.Fatalf("%s does not take %+v: %d", tell(s), r, e)
				}
			}
		}
	}
	if len(kinds) != 7 || len(lasts) != 4 {
		t.Errorf("not every action or record came: %v, %v", kinds, lasts)
	}
}

// turns carries a saga on by success alone, and tells in which turn Next says that it has ended.
func turns(t *testing.T, p api.Plan, s api.Saga) (api.Saga, int) {
	t.Helper()
	for n := 1; ; n++ {
		a, e := plan.Next(p, s)
		if e != api.OK || n > 200 {
			t.Fatalf("turn %d of %s: %d", n, tell(s), e)
		}
		if a.Kind == api.ANone {
			return s, n
		}
		r, is := acted(a)
		if !is {
			if r, is, e = plan.Answer(p, s, api.Answer{Outcome: api.RDone}); e != api.OK || !is {
				t.Fatalf("turn %d of %s: %v, %d", n, tell(s), is, e)
			}
		}
		next, e := saga.Apply(s, r)
		if e != api.OK {
			t.Fatalf("turn %d of %s: %+v is refused: %d", n, tell(s), r, e)
		}
		s = next
	}
}

// Promise 15.7: every saga of every plan of up to four steps goes on to its end, in the turn 2 Count + 2 at the latest; one that has just begun needs all of them.
func TestTurns(t *testing.T) {
	t.Parallel()
	for _, p := range plans(4) {
		most := 2*len(p.Steps) + 2
		for _, s := range reach(p) {
			end, n := turns(t, p, s)
			forward := s.Phase == api.Running || s.Phase == api.Whole
			if n > most || !saga.Finished(end) || forward != (end.Phase == api.Whole) {
				t.Fatalf("%+v: %s ends as %s in turn %d", p, tell(s), tell(end), n)
			}
		}
		if _, n := turns(t, p, begun(p, "in")); n != most {
			t.Errorf("%+v: a saga that has just begun ends in turn %d, not %d", p, n, most)
		}
	}
}

// Promise 15.7: the same of a plan of 32 steps, from each step and each undoing on.
func TestTurnsOfMany(t *testing.T) {
	p := api.Plan{Name: "buy", Steps: steps(api.MaxSteps)}
	for next := range api.MaxSteps + 1 {
		s := begun(p, "")
		s.Next, s.Outs = next, make([][]byte, next)
		if _, n := turns(t, p, s); n != 2*(api.MaxSteps-next)+2 {
			t.Errorf("with %d done steps: turn %d", next, n)
		}
		if next == api.MaxSteps {
			break
		}
		s.Phase, s.FailStep = api.Undoing, next
		if _, n := turns(t, p, s); n != 2*next+2 {
			t.Errorf("with %d steps to undo: turn %d", next, n)
		}
	}
}

// run is a saga of the chapter's example that is carried on in a test.
type run struct {
	t *testing.T
	p api.Plan
	s api.Saga
}

func (r *run) take(x api.Record) {
	r.t.Helper()
	s, e := saga.Apply(r.s, x)
	if e != api.OK {
		r.t.Fatalf("%+v is refused: %d", x, e)
	}
	r.s = s
}

// next wants an action, and carries out the record that it says.
func (r *run) next(kind, step, try int, name string) {
	r.t.Helper()
	a, e := plan.Next(r.p, r.s)
	if want := (api.Action{Kind: kind, Saga: 7, Step: step, Try: try, Name: name}); a != want || e != api.OK {
		r.t.Fatalf("Next = %+v, %d, not %+v", a, e, want)
	}
	if x, is := acted(a); is {
		r.take(x)
	}
}

func (r *run) ask(step int, undo bool, try int, name, data string) {
	r.t.Helper()
	c, e := plan.Ask(r.p, r.s)
	if want := (api.Call{Saga: 7, Step: step, Undo: undo, Try: try, Name: name, Data: []byte(data)}); !sameCall(c, want) || e != api.OK {
		r.t.Fatalf("Ask = %+v, %d, not %+v", c, e, want)
	}
}

// answer hands an answer in with the code 6, and wants a record of that kind.
func (r *run) answer(outcome int, data string, kind, step, last, code int) {
	r.t.Helper()
	x, some, e := plan.Answer(r.p, r.s, api.Answer{Outcome: outcome, Code: 6, Data: []byte(data)})
	if want := (api.Record{V: 3, Kind: kind, Saga: 7, Step: step, Last: last, Code: code, Data: []byte(data)}); !record.Same(x, want) || !some || e != api.OK {
		r.t.Fatalf("Answer = %+v, %v, %d, not %+v", x, some, e, want)
	}
	r.take(x)
}

func (r *run) lost() {
	r.t.Helper()
	x, some, e := plan.Answer(r.p, r.s, api.Answer{Outcome: api.RLost, Code: 6, Data: []byte("none")})
	if !record.Same(x, api.Record{}) || some || e != api.OK {
		r.t.Fatalf("Answer = %+v, %v, %d", x, some, e)
	}
}

// Promises 15.4, 15.5, 15.6: a saga of the chapter's example, whole in spite of lost answers and failures, told by hand.
func TestRunWhole(t *testing.T) {
	r := &run{t, order(), begun(order(), "in")}
	r.next(api.AStart, 0, 1, "reserve")
	r.next(api.AAsk, 0, 1, "reserve")
	r.ask(0, false, 1, "reserve", "in")
	r.lost()
	r.next(api.AAsk, 0, 1, "reserve")
	r.answer(api.RAgain, "busy", api.KFail, 0, 0, 6)
	r.next(api.AStart, 0, 2, "reserve")
	r.answer(api.RAgain, "", api.KFail, 0, 0, 6)
	r.next(api.AStart, 0, 3, "reserve")
	r.ask(0, false, 3, "reserve", "in")
	r.answer(api.RDone, "r", api.KDone, 0, 0, 0)
	r.next(api.AStart, 1, 1, "charge")
	r.ask(1, false, 1, "charge", "r")
	r.answer(api.RDone, "c", api.KDone, 1, 0, 0)
	r.next(api.AStart, 2, 1, "ship")
	r.answer(api.RAgain, "", api.KFail, 2, 0, 6)
	r.next(api.AStart, 2, 2, "ship")
	r.ask(2, false, 2, "ship", "c")
	r.answer(api.RDone, "", api.KDone, 2, 0, 0)
	for try := 1; try <= 5; try++ { // behind the pivot it is tried till it is done
		r.next(api.AStart, 3, try, "notify")
		r.ask(3, false, try, "notify", "")
		r.answer(api.RAgain+try%2, "not now", api.KFail, 3, 0, 6)
	}
	r.next(api.AStart, 3, 6, "notify")
	r.answer(api.RDone, "n", api.KDone, 3, 0, 0)
	r.next(api.AEndWhole, 0, 0, "")
	r.next(api.ANone, 0, 0, "")
	if r.s.Phase != api.Whole {
		t.Errorf("the saga ends as %s", tell(r.s))
	}
}

// Promises 15.4, 15.5, 15.6: another one, undone since the pivot's tries are used up, told by hand.
func TestRunUndone(t *testing.T) {
	r := &run{t, order(), begun(order(), "in")}
	for i, name := range []string{"reserve", "charge"} {
		r.next(api.AStart, i, 1, name)
		r.answer(api.RDone, "out of "+name, api.KDone, i, 0, 0)
	}
	r.next(api.AStart, 2, 1, "ship")
	r.answer(api.RAgain, "", api.KFail, 2, 0, 6)
	r.next(api.AStart, 2, 2, "ship")
	r.answer(api.RAgain, "no", api.KFail, 2, 1, 6)
	for try := 1; try <= 4; try++ { // an undoing is tried till it is done
		r.next(api.AUndo, 1, try, "refund")
		r.next(api.AAskUndo, 1, try, "refund")
		r.ask(1, true, try, "refund", "out of charge")
		r.lost()
		r.answer(api.RAgain+try%2, "not now", api.KFail, 1, 0, 6)
	}
	r.next(api.AUndo, 1, 5, "refund")
	r.answer(api.RDone, "u", api.KUndone, 1, 0, 0)
	r.next(api.AUndo, 0, 1, "release")
	r.ask(0, true, 1, "release", "out of reserve")
	r.answer(api.RDone, "", api.KUndone, 0, 0, 0)
	r.next(api.AEndUndone, 0, 0, "")
	r.next(api.ANone, 0, 0, "")
	if r.s.Phase != api.Undone || r.s.FailStep != 2 || string(r.s.Fail) != "no" {
		t.Errorf("the saga ends as %s", tell(r.s))
	}
}

// Promises 15.4, 15.6: a step is tried as often as the plan says, up to 1000 times; more tries, of an undoing or behind the pivot, are told as the 1000th again and again.
func TestMostTries(t *testing.T) {
	for _, tries := range []int{1, 2, 999, 1000} {
		p := api.Plan{Name: "a", Steps: []api.Step{{Do: "b", Undo: "c", Tries: 1}, {Do: "d", Undo: "e", Tries: tries}}}
		r := &run{t, p, begun(p, "")}
		r.next(api.AStart, 0, 1, "b")
		r.answer(api.RDone, "", api.KDone, 0, 0, 0)
		for try := 1; try < tries; try++ {
			r.next(api.AStart, 1, try, "d")
			r.answer(api.RAgain, "", api.KFail, 1, 0, 6)
		}
		r.next(api.AStart, 1, tries, "d")
		r.answer(api.RAgain, "", api.KFail, 1, 1, 6)
		for try := 1; try <= 1003; try++ {
			r.next(api.AUndo, 0, min(try, 1000), "c")
			r.next(api.AAskUndo, 0, min(try, 1000), "c")
			r.answer(api.RRefused-try%2, "", api.KFail, 0, 0, 6)
		}
		r.next(api.AUndo, 0, 1000, "c")
		r.answer(api.RDone, "", api.KUndone, 0, 0, 0)
		r.next(api.AEndUndone, 0, 0, "")
	}
	p := api.Plan{Name: "a", Pivot: 1, Steps: []api.Step{{Do: "b", Tries: 1000}, {Do: "c"}}}
	r := &run{t, p, begun(p, "")}
	r.next(api.AStart, 0, 1, "b")
	r.answer(api.RDone, "", api.KDone, 0, 0, 0)
	for try := 1; try <= 1003; try++ {
		r.next(api.AStart, 1, min(try, 1000), "c")
		r.ask(1, false, min(try, 1000), "c", "")
		r.answer(api.RAgain+try%2, "", api.KFail, 1, 0, 6)
	}
}

// Promise 15.6: a saga may have been tried more often than its plan says now; a failure then is for good.
func TestTriesAbovePlan(t *testing.T) {
	p := api.Plan{Name: "a", Steps: []api.Step{{Do: "b", Undo: "c", Tries: 2}}}
	s := begun(p, "")
	s.Flight = true
	for tries, last := range map[int]int{1: 0, 2: 1, 3: 1, 1000: 1} {
		s.Tries = tries
		r, some, e := plan.Answer(p, s, api.Answer{Outcome: api.RAgain})
		if r.Last != last || !some || e != api.OK {
			t.Errorf("try %d: %+v, %v, %d", tries, r, some, e)
		}
	}
}

// unfit is sagas that are none of the chapter's example, and one that is.
func unfit() (api.Saga, []api.Saga) {
	s := begun(order(), "in")
	s.Flight, s.Tries = true, 1
	change := func(f func(s *api.Saga)) api.Saga {
		out := saga.Clone(s)
		f(&out)
		return out
	}
	return s, []api.Saga{
		change(func(s *api.Saga) { s.Name = "order2" }),
		change(func(s *api.Saga) { s.Count = 3 }),
		change(func(s *api.Saga) { s.Count = 5 }),
		change(func(s *api.Saga) { s.Count = 32 }),
		change(func(s *api.Saga) { s.Pivot = 0 }),
		change(func(s *api.Saga) { s.Pivot = 2 }),
		change(func(s *api.Saga) { s.Pivot = 4 }),
		change(func(s *api.Saga) { s.Name, s.Flight, s.Tries, s.At = "z", false, 0, s.Begun }),
	}
}

// refusals is what Next, Ask and Answer are refused with; beside an error all else must be zero.
func refusals(t *testing.T, p api.Plan, s api.Saga, a api.Answer) [3]api.Errno {
	t.Helper()
	act, e := plan.Next(p, s)
	c, e2 := plan.Ask(p, s)
	r, some, e3 := plan.Answer(p, s, a)
	if e != api.OK && act != (api.Action{}) || e2 != api.OK && !sameCall(c, api.Call{}) || e3 != api.OK && (some || !record.Same(r, api.Record{})) {
		t.Errorf("beside %d, %d, %d: %+v, %+v, %+v, %v", e, e2, e3, act, c, r, some)
	}
	return [3]api.Errno{e, e2, e3}
}

// Promises 15.4, 15.5, 15.6: the plan's error comes first, then the saga's, then that it does not fit, then that nothing is in flight, then the outcome; but data that is too long ahead of all.
func TestTurnOrder(t *testing.T) {
	good, others := unfit()
	broken := saga.Clone(good)
	broken.Next = 3
	rest := begun(order(), "")
	long := api.Answer{Data: make([]byte, api.MaxData+1)}
	all := func(e api.Errno) [3]api.Errno { return [3]api.Errno{e, e, e} }
	hold := func(name string, got, want [3]api.Errno) {
		t.Helper()
		if got != want {
			t.Errorf("%s: %v, not %v", name, got, want)
		}
	}
	for _, c := range wrong() {
		for _, s := range append(others, good, broken, rest, api.Saga{}) {
			hold("a wrong plan", refusals(t, c.p, s, api.Answer{}), all(c.e))
			hold("a wrong plan and long data", refusals(t, c.p, s, long), [3]api.Errno{c.e, c.e, api.ErrLong})
		}
	}
	for _, s := range []api.Saga{broken, {}, {Name: "order", Count: 4, Pivot: 3}} {
		hold("no saga", refusals(t, order(), s, api.Answer{}), all(api.ErrSaga))
		hold("no saga and long data", refusals(t, order(), s, long), [3]api.Errno{api.ErrSaga, api.ErrSaga, api.ErrLong})
	}
	for i, s := range others {
		hold(fmt.Sprint("unfit ", i), refusals(t, order(), s, api.Answer{}), all(api.ErrFit))
		hold(fmt.Sprint("unfit, long data ", i), refusals(t, order(), s, long), [3]api.Errno{api.ErrFit, api.ErrFit, api.ErrLong})
	}
	hold("nothing in flight", refusals(t, order(), rest, api.Answer{Outcome: 9}), [3]api.Errno{api.OK, api.ErrFlight, api.ErrFlight})
	hold("nothing in flight, long data", refusals(t, order(), rest, long), [3]api.Errno{api.OK, api.ErrFlight, api.ErrLong})
	hold("no outcome", refusals(t, order(), good, api.Answer{}), [3]api.Errno{api.OK, api.OK, api.ErrOutcome})
	hold("long data", refusals(t, order(), good, long), [3]api.Errno{api.OK, api.OK, api.ErrLong})
	hold("lost", refusals(t, order(), good, api.Answer{Outcome: api.RLost}), all(api.OK))
}
