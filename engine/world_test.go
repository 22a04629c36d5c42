package engine_test

import (
	"fmt"
	"math/rand"
	"slices"
	"testing"

	"annals/api"
	"annals/disk"
	"annals/engine"
	"annals/plan"
	"annals/store"
)

// key is what a participant knows a call by.
type key struct {
	saga, step int
	undo       bool
}

// world is participants that remember by key what they have done or refused for good. What they do with a call that is new to them, or that they put off, mind says.
type world struct {
	plans   map[string]api.Plan
	mind    func(w *world, k key, mayRefuse bool) int
	did     map[int][]key // by saga, in the order in which it was done
	data    map[key]string
	refused map[key]bool
	put     map[key]int // how often one put off
}

func newWorld(t *testing.T, mind func(w *world, k key, mayRefuse bool) int, lines ...string) *world {
	t.Helper()
	w := &world{plans: map[string]api.Plan{}, mind: mind, did: map[int][]key{}, data: map[key]string{}, refused: map[key]bool{}, put: map[key]int{}}
	for _, line := range lines {
		p, e, _ := plan.Parse(line)
		if e != api.OK {
			t.Fatal(line, e)
		}
		w.plans[p.Name] = p
	}
	return w
}

// obliging does what it is asked.
func obliging(*world, key, bool) int { return api.RDone }

// asked is what the participant of a call of that plan answers.
func (w *world) asked(c api.Call, p api.Plan) api.Answer {
	k := key{c.Saga, c.Step, c.Undo}
	if _, is := w.data[k]; is {
		return done(w.data[k])
	}
	if w.refused[k] {
		return api.Answer{Outcome: api.RRefused, Code: 4}
	}
	mayRefuse := !c.Undo && (p.Pivot == 0 || c.Step < p.Pivot)
	switch out := w.mind(w, k, mayRefuse); out {
	case api.RRefused:
		w.refused[k] = true
		return api.Answer{Outcome: out, Code: 4}
	case api.RAgain:
		w.put[k]++
		return api.Answer{Outcome: out, Code: 5}
	}
	w.data[k] = fmt.Sprintf("%d.%d.%v", c.Saga, c.Step, c.Undo)
	w.did[c.Saga] = append(w.did[c.Saga], k)
	return done(w.data[k])
}

// history is an engine among participants, on a disk that may go down.
type history struct {
	t     *testing.T
	quota int
	lines []string
	d     *disk.Disk
	e     *engine.Engine
	w     *world
	calls []api.Call       // those that are out, and were not brought yet
	ended map[int]api.Saga // as they were told
	begun map[int]string   // the plans of sagas whose begin was answered with nil
}

func newHistory(t *testing.T, quota int, mind func(w *world, k key, mayRefuse bool) int, lines ...string) *history {
	t.Helper()
	h := &history{t: t, quota: quota, lines: lines, w: newWorld(t, mind, lines...), ended: map[int]api.Saga{}, begun: map[int]string{}}
	h.d = newDisk(t, quota)
	h.open(api.Options{V: 3, Limit: 200})
	return h
}

// open opens the engine; false, if the disk goes down in it.
func (h *history) open(o api.Options) bool {
	h.t.Helper()
	e, err := engine.Open(h.d, o, h.lines...)
	if err != nil && !h.d.Down() {
		h.t.Fatalf("Open: %v", err)
	}
	h.e, h.calls = e, nil
	if err == nil {
		h.look() // ahead of a Compact, which drops what a crash has left of ended ones
	}
	return err == nil
}

// crash leaves this of the disk, and opens again.
func (h *history) crash(o api.Options, keep int, cuts ...api.Cut) {
	h.t.Helper()
	h.d = loaded(h.t, h.quota, h.d.Crash(keep, cuts...)...)
	if !h.open(o) {
		h.t.Fatal("the disk is down again")
	}
}

func (h *history) begin(id int, name string) {
	h.t.Helper()
	err := h.e.Begin(id, name, []byte("in"))
	if err == nil {
		h.begun[id] = name
	} else if !h.d.Down() {
		h.t.Fatalf("Begin: %v", err)
	}
}

// next asks for a call; what is told must last already.
func (h *history) next() (api.Call, bool) {
	h.t.Helper()
	c, is, err := h.e.Next()
	if err != nil && !h.d.Down() || is && err != nil {
		h.t.Fatalf("Next: %v, %v", is, err)
	}
	if is {
		h.lasts(c)
		h.calls = append(h.calls, c)
	}
	h.look()
	return c, is
}

// lasts holds W4: of a disk that lost all that it may lose the store has all records, and the last one of the call's saga begins what the call asks for.
func (h *history) lasts(c api.Call) {
	h.t.Helper()
	s, err := store.Open(loaded(h.t, h.quota, h.d.Crash(0)...), usual)
	must(h.t, err)
	left := listed(h.t, s)
	own, err := s.Lookup(c.Saga)
	must(h.t, err)
	if !sameRecs(left, listOf(h.t, h.e)) || len(own) == 0 {
		h.t.Fatalf("W4: %+v is asked, and of %d records %d last", c, h.e.Store().Stat().Records, len(left))
	}
	last, kind := own[len(own)-1], api.KStart
	if c.Undo {
		kind = api.KUndo
	}
	if last.Kind != kind || last.Step != c.Step || last.Try != c.Try {
		h.t.Fatalf("W4: %+v is asked behind %+v", c, last)
	}
}

// look keeps how sagas ended; none ends twice in unlike ways.
func (h *history) look() {
	h.t.Helper()
	if h.d.Down() {
		return
	}
	for _, s := range h.e.State().Sagas {
		if s.Phase < api.Whole {
			continue
		}
		if was, is := h.ended[s.ID]; is && was.Phase != s.Phase {
			h.t.Fatalf("saga %d ended first in phase %d, then in %d", s.ID, was.Phase, s.Phase)
		}
		h.ended[s.ID] = s
	}
}

// bring makes one of the calls that are out. Call and answer may be lost on the way.
func (h *history) bring(i int, callLost, answerLost bool) {
	h.t.Helper()
	c := h.calls[i]
	h.calls = slices.Delete(h.calls, i, i+1)
	a := api.Answer{Outcome: api.RLost}
	if !callLost {
		a = h.w.asked(c, h.planOf(c.Saga))
	}
	if answerLost {
		a = api.Answer{Outcome: api.RLost}
	}
	if err := h.e.Reply(c.Saga, a); err != nil && !h.d.Down() {
		h.t.Fatalf("Reply: %v", err)
	}
	h.look()
}

func (h *history) planOf(id int) api.Plan {
	for _, s := range h.e.State().Sagas {
		if s.ID == id {
			return h.w.plans[s.Name]
		}
	}
	h.t.Fatalf("no saga %d", id)
	return api.Plan{}
}

// finish plays on without anything lost, put off or down, till there is nothing more to ask, and holds W3.
func (h *history) finish() {
	h.t.Helper()
	h.d.Arm(-1)
	h.w.mind = obliging
	for len(h.calls) > 0 {
		h.bring(0, false, false)
	}
	asked := map[int]int{}
	for {
		c, is := h.next()
		if !is && len(h.calls) == 0 {
			break
		}
		asked[c.Saga]++
		if n := 2 * len(h.planOf(c.Saga).Steps); asked[c.Saga] > n {
			h.t.Fatalf("W3: saga %d is asked more than %d times", c.Saga, n)
		}
		h.bring(0, false, false)
	}
	for _, s := range h.e.State().Sagas {
		if s.Phase < api.Whole {
			h.t.Fatalf("W3: saga %d has not ended: %+v", s.ID, s)
		}
	}
	for id := range h.begun {
		if _, is := h.ended[id]; !is {
			h.t.Fatalf("W3: saga %d was begun and never ended", id)
		}
	}
	for id := range h.w.did {
		if _, is := h.ended[id]; !is {
			h.t.Fatalf("W3: something was done for saga %d, which never ended", id)
		}
	}
	for _, s := range h.ended {
		h.allOrNothing(s)
	}
}

// allOrNothing holds what W3 says of a saga that has ended.
func (h *history) allOrNothing(s api.Saga) {
	h.t.Helper()
	p := h.w.plans[s.Name]
	var want []key
	k := len(p.Steps)
	if s.Phase == api.Undone {
		k = s.FailStep
	}
	for i := range k {
		want = append(want, key{s.ID, i, false})
	}
	for i := k - 1; i >= 0 && s.Phase == api.Undone; i-- {
		want = append(want, key{s.ID, i, true})
	}
	if !slices.Equal(h.w.did[s.ID], want) {
		h.t.Fatalf("W3: for %+v was done %v", s, h.w.did[s.ID])
	}
	if s.Phase == api.Whole {
		return
	}
	failed := key{s.ID, s.FailStep, false}
	if k >= len(p.Steps) || p.Pivot > 0 && k >= p.Pivot || !h.w.refused[failed] && h.w.put[failed] < p.Steps[k].Tries {
		h.t.Fatalf("W3: %+v is undone; put off %d times", s, h.w.put[failed])
	}
}

// scripted is minds that answer by a list for each step, and then oblige.
func scripted(script map[key][]int) func(w *world, k key, mayRefuse bool) int {
	left := map[key][]int{}
	for k, list := range script {
		left[k] = slices.Clone(list)
	}
	return func(_ *world, k key, _ bool) int {
		k.saga = 0
		if len(left[k]) == 0 {
			return api.RDone
		}
		out := left[k][0]
		left[k] = left[k][1:]
		return out
	}
}

// Promises 16.10, 16.11, W3, W4: two sagas among participants of several minds; the disk goes down at each changing call, and each of many crashes behind it leaves an engine that brings both to their end.
func TestEachCrash(t *testing.T) {
	t.Parallel()
	const again, refuse = api.RAgain, api.RRefused
	ends := map[int]int{}
	for i, script := range []map[key][]int{
		{},
		{{step: 0}: {refuse}},
		{{step: 0}: {again}, {step: 1}: {again, refuse}, {step: 0, undo: true}: {again, again}},
		{{step: 1}: {again, again, again, again}},
		{{step: 2}: {again, again}, {step: 3}: {again, again, again}},
		{{step: 2}: {refuse}, {step: 1, undo: true}: {again}},
	} {
		for n := 0; ; n++ {
			down := false
			for keep := range 3 {
				for _, cut := range []api.Cut{{}, {Keep: 11, Zero: 4}, {Keep: 999}} {
					h := newHistory(t, 1<<16, scripted(script), "order: a*2~b, c*2~d, e!, f")
					h.d.Arm(n)
					h.carry(8, 3)
					if down = h.d.Down(); down {
						h.crash(api.Options{V: 3, Limit: 100}, keep, slices.Repeat([]api.Cut{cut}, 20)...)
					}
					h.finish()
					for _, s := range h.ended {
						ends[i*10+s.Phase]++
					}
				}
			}
			if !down {
				break
			}
		}
	}
	for _, want := range []int{3, 14, 24, 34, 43, 54} {
		if ends[want] == 0 {
			t.Errorf("mind %d never ends in phase %d: %v", want/10, want%10, ends)
		}
	}
}

// carry begins sagas of the one plan, and plays till there is nothing more to ask, or the disk is down.
func (h *history) carry(ids ...int) {
	h.t.Helper()
	for _, id := range ids {
		if h.d.Down() {
			return
		}
		h.begin(id, "order")
	}
	for !h.d.Down() {
		for range ids {
			if _, is := h.next(); !is || h.d.Down() {
				break
			}
		}
		if len(h.calls) == 0 {
			return
		}
		for len(h.calls) > 0 && !h.d.Down() {
			h.bring(0, false, false)
		}
	}
}

// Promises 16.10, 16.11, W3, W4: drawn histories: sagas of drawn plans, calls and answers that are lost, participants that put off and refuse, compactions, and crashes, in Open too.
func TestAllOrNothing(t *testing.T) {
	t.Parallel()
	ends, crashes := map[int]int{}, 0
	for seed := range int64(160) {
		r := rand.New(rand.NewSource(seed))
		temper := r.Intn(4)
		mind := func(_ *world, _ key, mayRefuse bool) int {
			switch n := r.Intn(20); {
			case mayRefuse && n < temper:
				return api.RRefused
			case n < 3*temper:
				return api.RAgain
			}
			return api.RDone
		}
		lines := append([]string{"wide: " + many(6), "late: " + many(3) + ", x*2!, y, z"}, plans...)
		h := newHistory(t, 1<<20, mind, lines...)
		for range 60 + r.Intn(200) {
			h.draw(r, temper)
			if h.d.Down() {
				crashes++
				h.comeBack(r)
			}
		}
		h.finish()
		for _, s := range h.ended {
			ends[s.Phase]++
		}
	}
	if ends[api.Whole] < 150 || ends[api.Undone] < 150 || crashes < 200 {
		t.Errorf("so many sagas ended whole and undone: %v, over %d crashes", ends, crashes)
	}
}

// draw does one drawn thing.
func (h *history) draw(r *rand.Rand, temper int) {
	h.t.Helper()
	switch n := r.Intn(24); {
	case n < 3:
		id := h.e.Store().Stat().Top + 1 + r.Intn(30)
		if slices.ContainsFunc(h.e.State().Sagas, func(s api.Saga) bool { return s.ID == id }) {
			return
		}
		h.begin(id, pick(r, "wide", "late", "pay", "job", "go", "one", "two"))
	case n < 12:
		h.next()
	case n < 21:
		if len(h.calls) > 0 {
			h.bring(r.Intn(len(h.calls)), r.Intn(9) < temper, r.Intn(9) < temper)
		}
	case n < 22:
		if _, err := h.e.Compact(); err != nil && !h.d.Down() {
			h.t.Fatalf("Compact: %v", err)
		}
		h.look()
	default:
		if r.Intn(4) < temper {
			h.d.Arm(r.Intn(9))
		}
	}
}

// comeBack opens behind a crash; the disk may go down in it once more.
func (h *history) comeBack(r *rand.Rand) {
	h.t.Helper()
	for {
		var cuts []api.Cut
		for range r.Intn(9) {
			cuts = append(cuts, api.Cut{Keep: r.Intn(90), Zero: r.Intn(20) - 10})
		}
		h.d = loaded(h.t, h.quota, h.d.Crash(r.Intn(8), cuts...)...)
		h.d.Arm(pick(r, -1, -1, 0, 1, 2, 3))
		if h.open(api.Options{V: 1 + r.Intn(3), Limit: pick(r, 64, 200, 4000)}) {
			return
		}
	}
}
