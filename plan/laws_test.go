package plan_test

import (
	"math/rand"
	"testing"

	"annals/api"
	"annals/plan"
	"annals/saga"
)

// world is participants that remember by key what they have done or refused for good; a temper of 0 does all at once.
type world struct {
	r       *rand.Rand
	p       api.Plan
	temper  int
	did     []string // who did what, in this order
	done    map[string]bool
	refused map[string]bool
	put     map[string]int // how often one was put off
	asked   map[string]int
}

func newWorld(r *rand.Rand, p api.Plan, temper int) *world {
	return &world{r: r, p: p, temper: temper, done: map[string]bool{}, refused: map[string]bool{}, put: map[string]int{}, asked: map[string]int{}}
}

// answer is what the participant of a call answers, and whether it gets lost on the way.
func (w *world) answer(c api.Call) (api.Answer, bool) {
	w.asked[c.Name]++
	lost := w.r.Intn(4) < w.temper
	mayRefuse := !c.Undo && (w.p.Pivot == 0 || c.Step < w.p.Pivot)
	switch {
	case w.done[c.Name]:
	case w.refused[c.Name] || mayRefuse && w.r.Intn(12) < w.temper:
		w.refused[c.Name] = true
		return api.Answer{Outcome: api.RRefused, Code: 1}, lost
	case w.r.Intn(4) < w.temper:
		if !lost {
			w.put[c.Name]++
		}
		return api.Answer{Outcome: api.RAgain}, lost
	default:
		w.done[c.Name] = true
		w.did = append(w.did, c.Name)
	}
	return api.Answer{Outcome: api.RDone, Data: []byte("of " + c.Name)}, lost
}

// carry carries a saga on by Next, Ask and Answer alone till it has ended; at the end nothing is put off or lost any more.
func (w *world) carry(t *testing.T, s api.Saga) api.Saga {
	for n := 0; ; n++ {
		if n == 60 {
			w.temper = 0
		}
		a, e := plan.Next(w.p, s)
		if e != api.OK || n > 60+2*len(w.p.Steps)+2 {
			t.Fatalf("%+v: turn %d of %s: %d", w.p, n, tell(s), e)
		}
		if a.Kind == api.ANone {
			return s
		}
		r, is := acted(a)
		if !is {
			c, e := plan.Ask(w.p, s)
			if e != api.OK || c.Name != a.Name || c.Step != a.Step || c.Try != a.Try || c.Undo != (a.Kind == api.AAskUndo) {
				t.Fatalf("%+v: asked is %+v, %d", a, c, e)
			}
			out, lost := w.answer(c)
			if lost {
				out.Outcome = api.RLost
			}
			if r, is, e = plan.Answer(w.p, s, out); e != api.OK || is == lost {
				t.Fatalf("%+v: the answer %+v makes %+v, %v, %d", c, out, r, is, e)
			}
		}
		if is {
			if s, e = saga.Apply(s, r); e != api.OK {
				t.Fatalf("%+v is refused: %d", r, e)
			}
		}
	}
}

// due is who must have done what when a saga has ended with k steps done: all of them, and if it is undone their undoings, the last one first.
func due(p api.Plan, s api.Saga) []string {
	var out []string
	for i := range s.Outs {
		out = append(out, p.Steps[i].Do)
	}
	for i := len(s.Outs) - 1; i >= 0 && s.Phase == api.Undone; i-- {
		out = append(out, p.Steps[i].Undo)
	}
	return out
}

// Promises 15.4 to 15.7: whatever participants do, and whatever answers are lost, each saga ends with all its steps done, or with what was done undone, and is undone only if a step was refused, or put off as often as it is tried.
func TestAllOrNothing(t *testing.T) {
	t.Parallel()
	r := rand.New(rand.NewSource(157))
	ends := map[int]int{}
	for range 6000 {
		p := drawPlan(r)
		if plan.Check(p) != api.OK {
			continue
		}
		w := newWorld(r, p, r.Intn(3))
		s := w.carry(t, begun(p, "in"))
		ends[s.Phase]++
		want := due(p, s)
		if len(w.did) != len(want) {
			t.Fatalf("%+v: %q was done, not %q", p, w.did, want)
		}
		for i := range want {
			if w.did[i] != want[i] {
				t.Fatalf("%+v: %q was done, not %q", p, w.did, want)
			}
		}
		if s.Phase == api.Whole {
			if len(s.Outs) != len(p.Steps) {
				t.Fatalf("%+v: whole with %d steps", p, len(s.Outs))
			}
			continue
		}
		failed := p.Steps[s.FailStep]
		if !w.refused[failed.Do] && w.put[failed.Do] != failed.Tries || p.Pivot > 0 && s.FailStep >= p.Pivot {
			t.Fatalf("%+v: undone by step %d, put off %d times", p, s.FailStep, w.put[failed.Do])
		}
	}
	if ends[api.Whole] < 500 || ends[api.Undone] < 500 {
		t.Errorf("so many sagas ended whole and undone: %v", ends)
	}
}

// Promise 15.3: drawn lines, put together from parts: the answers are those of the second reading.
func TestParseDrawn(t *testing.T) {
	t.Parallel()
	r := rand.New(rand.NewSource(153))
	parts := []string{"a", "b", "c", "é", ":", ": ", ",", ", ", "*2", "*", "1", "0", "1000", "-1", "~", "~d", "!", " ", "\t", "#", `"x"`, "\xff", "(", ";", "a: b~c", ", e~f", "g!"}
	for range 60000 {
		line := []string{"", "p: ", "p: a~b, ", "p: a!"}[r.Intn(4)]
		for range r.Intn(12) {
			line += parts[r.Intn(len(parts))]
		}
		hold(t, line)
	}
}
