package saga_test

import (
	"math"
	"math/rand"
	"slices"
	"testing"

	"annals/api"
	"annals/saga"
)

// draw is a valid record of that kind and of the saga's id, with any values.
func draw(r *rand.Rand, s api.Saga, kind int) api.Record {
	rec := api.Record{V: 3, Kind: kind, Saga: s.ID, At: r.Intn(4)}
	data := make([]byte, r.Intn(4))
	r.Read(data)
	switch kind {
	case api.KBegin:
		rec.Count, rec.Name, rec.Data = 1+r.Intn(5), "buy", data
		if r.Intn(8) == 0 {
			rec.Count = api.MaxSteps
		}
		rec.Pivot = r.Intn(rec.Count + 1)
	case api.KStart, api.KUndo:
		rec.Step, rec.Try = r.Intn(4), 1+r.Intn(3)
	case api.KDone, api.KUndone:
		rec.Step, rec.Data = r.Intn(4), data
	case api.KFail:
		rec.Step, rec.Data, rec.Last, rec.Code = r.Intn(4), data, r.Intn(2), []int{0, 1, -1, math.MinInt, math.MaxInt}[r.Intn(5)]
	case api.KEnd:
		rec.Code = r.Intn(3)
	}
	return rec
}

// drawNear is a record that is often one that may come next, and nearly so else.
func drawNear(r *rand.Rand, s api.Saga) api.Record {
	rec := draw(r, s, 1+r.Intn(7))
	if r.Intn(3) > 0 && len(saga.Allowed(s)) > 0 {
		l := saga.Allowed(s)
		rec = draw(r, s, l[r.Intn(len(l))])
	}
	if rec.Kind == api.KFail && r.Intn(3) > 0 {
		rec.Last = 0
	}
	if r.Intn(8) > 0 {
		switch {
		case rec.Kind == api.KBegin || rec.Kind == api.KEnd:
		case s.Phase == api.Running:
			rec.Step = min(s.Next, api.MaxSteps-1)
		default:
			rec.Step = max(s.Next-1, 0)
		}
		if rec.Try != 0 {
			rec.Try = min(s.Tries+1, api.MaxTry)
		}
	}
	if r.Intn(10) == 0 {
		rec.Saga++
	}
	return rec
}

// steps is the steps of the records of a kind, in their order.
func (c chronicle) steps(kind int) []int {
	var out []int
	for _, r := range c.of(kind) {
		out = append(out, r.Step)
	}
	return out
}

// count is n numbers, from a first one on, up or down.
func count(first, by, n int) []int {
	var out []int
	for i := range n {
		out = append(out, first+by*i)
	}
	return out
}

// audit holds records that were taken against the chapter's words of all or nothing.
func (c chronicle) audit(t *testing.T, s api.Saga) {
	t.Helper()
	done, undone := c.steps(api.KDone), c.steps(api.KUndone)
	if !slices.Equal(done, count(0, 1, len(done))) || len(done) > s.Count {
		t.Fatalf("steps were done in the order %v", done)
	}
	if !slices.Equal(undone, count(len(done)-1, -1, len(undone))) || len(undone) > len(done) {
		t.Fatalf("of the steps %v, there were undone %v", done, undone)
	}
	if s.Pivot != 0 && len(done) >= s.Pivot && (len(undone) > 0 || len(c.of(api.KUndo)) > 0) {
		t.Fatalf("the pivot %d is done, and yet there were undone %v", s.Pivot, undone)
	}
	switch s.Phase {
	case api.Whole:
		if len(done) != s.Count || len(undone) != 0 {
			t.Fatalf("whole, with the steps %v done and %v undone", done, undone)
		}
	case api.Undone:
		if len(done) != len(undone) {
			t.Fatalf("undone, with the steps %v done and %v undone", done, undone)
		}
	}
	if saga.Finished(s) != (len(c.of(api.KEnd)) == 1) || len(c.of(api.KEnd)) > 1 {
		t.Fatalf("it has %d ends", len(c.of(api.KEnd)))
	}
}

// Promise 10.9: whatever records are handed in, those that are taken do all or nothing; and the saga is always that of the second reading.
func TestAllOrNothing(t *testing.T) {
	t.Parallel()
	r := rand.New(rand.NewSource(1))
	ends := map[int]int{}
	for range 600 {
		first := draw(r, api.Saga{ID: 7}, api.KBegin)
		s, e := saga.Begin(first)
		if e != api.OK {
			t.Fatal(e)
		}
		c := chronicle{first}
		for range 40 + 8*s.Count {
			rec := drawNear(r, s)
			next, e := saga.Apply(s, rec)
			if e != refused(c.saga(), rec) {
				t.Fatalf("Apply(%s, %+v): %d", tell(s), rec, e)
			}
			if e != api.OK {
				continue
			}
			c = append(c, rec)
			s = next
			if !equal(s, c.saga()) {
				t.Fatalf("it is %s, not %s", tell(s), tell(c.saga()))
			}
			c.audit(t, s)
		}
		ends[s.Phase]++
	}
	if ends[api.Whole] < 20 || ends[api.Undone] < 20 {
		t.Errorf("so many sagas end in each phase: %v", ends)
	}
}

// onward is the record that succeeds: what is not begun is begun, what is begun is done, and what is all done ends.
func onward(s api.Saga) api.Record {
	r := api.Record{V: 3, Saga: s.ID}
	start, land, over := api.KStart, api.KDone, s.Next == s.Count
	r.Step = s.Next
	if s.Phase == api.Undoing {
		start, land, over, r.Step = api.KUndo, api.KUndone, s.Next == 0, s.Next-1
	}
	switch {
	case over:
		r.Kind, r.Step = api.KEnd, 0
	case s.Flight:
		r.Kind = land
	default:
		r.Kind, r.Try = start, min(s.Tries+1, api.MaxTry)
	}
	return r
}

// Promise 10.10: from every saga that has not ended there is a way on, of at most twice its steps and one more record.
func TestWayOn(t *testing.T) {
	t.Parallel()
	long := 0
	for _, c := range reach(begins(3), followers(3, 3)) {
		s, e := c.saga(), api.OK
		n := 0
		for ; s.Phase == api.Running || s.Phase == api.Undoing; n++ {
			r := onward(s)
			if !slices.Contains(saga.Allowed(s), r.Kind) {
				t.Fatalf("%s allows %v", tell(s), saga.Allowed(s))
			}
			if s, e = saga.Apply(s, r); e != api.OK || n > 2*s.Count+1 {
				t.Fatalf("record %d: %+v: %d", n, r, e)
			}
		}
		if n > 2*s.Count+1 || !saga.Finished(s) {
			t.Fatalf("%s needs %d records to its end", tell(c.saga()), n)
		}
		long = max(long, n-2*s.Count)
	}
	if long != 1 {
		t.Errorf("the longest way has %d records beside two a step", long)
	}
}
