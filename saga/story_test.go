package saga_test

import (
	"math/rand"
	"slices"
	"testing"

	"annals/api"
	"annals/lift"
	"annals/record"
	"annals/saga"
)

// play is where records lead, the first taken by Begin and the others by Apply; the first that is refused ends it.
func play(recs []api.Record) (api.Saga, api.Errno) {
	if len(recs) == 0 {
		return api.Saga{}, api.ErrBegin
	}
	s, e := saga.Begin(recs[0])
	for _, r := range recs[1:] {
		if e == api.OK {
			s, e = saga.Apply(s, r)
		}
	}
	return s, e
}

// story is the second reading of what Story tells.
func story(s api.Saga) []api.Record {
	out := []api.Record{{Kind: api.KBegin, Count: s.Count, Pivot: s.Pivot, Name: s.Name, Data: s.Input}}
	add := func(kind, step, try, last, code int, data []byte) {
		out = append(out, api.Record{Kind: kind, Step: step, Try: try, Last: last, Code: code, Data: data, At: s.At})
	}
	for i := range s.Outs {
		add(api.KStart, i, 1, 0, 0, nil)
		add(api.KDone, i, 0, 0, 0, s.Outs[i])
	}
	again, on := api.KStart, s.Next
	if s.Phase == api.Undoing || s.Phase == api.Undone {
		again, on = api.KUndo, s.Next-1
		add(api.KStart, s.FailStep, 1, 0, 0, nil)
		add(api.KFail, s.FailStep, 0, 1, s.FailCode, s.Fail)
		for j := range s.Undos {
			add(api.KUndo, s.FailStep-1-j, 1, 0, 0, nil)
			add(api.KUndone, s.FailStep-1-j, 0, 0, 0, s.Undos[j])
		}
	}
	for try := 1; try <= s.Tries; try++ {
		add(again, on, try, 0, 0, nil)
		add(api.KFail, on, 0, 0, 0, nil)
	}
	if s.Flight {
		out = out[:len(out)-1]
	}
	switch s.Phase {
	case api.Whole:
		add(api.KEnd, 0, 0, 0, 1, nil)
	case api.Undone:
		add(api.KEnd, 0, 0, 0, 2, nil)
	}
	out[0].At = s.Begun
	for i := range out {
		out[i].V, out[i].Saga = 3, s.ID
	}
	return out
}

// Promises 10.7, 10.11: the story of every saga of up to three steps is the one that the chapter tells; it is as short as a list of records that leads there can be; and it leads there.
func TestStoryAll(t *testing.T) {
	t.Parallel()
	for _, c := range reach(begins(3), told(followers(3, 3))) {
		s := c.saga()
		got, e := saga.Story(s)
		if e != api.OK || !sameRecs(got, story(s)) || len(got) != len(c) {
			t.Fatalf("Story(%s) = %+v, %d; %d records lead there", tell(s), got, e, len(c))
		}
		if back, e := play(got); e != api.OK || !equal(back, s) {
			t.Fatalf("the story of %s leads to %s, %d", tell(s), tell(back), e)
		}
	}
}

// Promises 10.7, 10.11: great sagas have stories, too.
func TestStoryGreat(t *testing.T) {
	t.Parallel()
	full := make([]byte, api.MaxData)
	all := make([][]byte, api.MaxSteps)
	for i := range all {
		all[i] = slices.Clone(full)
		all[i][i] = 1
	}
	great := api.Saga{ID: api.MaxID, Name: "é", Count: api.MaxSteps, Pivot: api.MaxSteps, Begun: api.MaxID, At: 3, Input: full, Phase: api.Running}
	back := with(great, func(s *api.Saga) {
		s.Phase, s.FailStep, s.FailCode, s.Fail, s.Outs = api.Undoing, 31, -1, full, all[:31]
	})
	for i, s := range []api.Saga{
		with(great, func(s *api.Saga) { s.Tries = api.MaxTry }),
		with(great, func(s *api.Saga) { s.Tries, s.Flight = api.MaxTry, true }),
		with(great, func(s *api.Saga) { s.Next, s.Outs = api.MaxSteps, all }),
		with(great, func(s *api.Saga) { s.Phase, s.Next, s.Outs = api.Whole, api.MaxSteps, all }),
		with(back, func(s *api.Saga) { s.Next = 31 }),
		with(back, func(s *api.Saga) { s.Next, s.Undos = 2, all[3:] }),
		with(back, func(s *api.Saga) { s.Undos = all[1:] }),
		with(back, func(s *api.Saga) { s.Undos, s.Phase = all[1:], api.Undone }),
		with(u, func(s *api.Saga) { s.Tries = api.MaxTry }),
		with(u, func(s *api.Saga) { s.Tries, s.Flight = api.MaxTry, false }),
	} {
		got, e := saga.Story(s)
		if e != api.OK || !sameRecs(got, story(s)) {
			t.Fatalf("saga %d: a story of %d records, %d", i, len(got), e)
		}
		if back, e := play(got); e != api.OK || !equal(back, s) {
			t.Fatalf("saga %d: the story leads elsewhere, %d", i, e)
		}
	}
}

// Promises 10.3, 10.11: what Begin and Apply answer is always a saga that Check takes, however the records come.
func TestAnswersAreSagas(t *testing.T) {
	t.Parallel()
	r := rand.New(rand.NewSource(3))
	for range 200 {
		s, e := saga.Begin(draw(r, api.Saga{ID: 7}, api.KBegin))
		if e != api.OK || saga.Check(s) != api.OK {
			t.Fatalf("Begin answers %s, %d", tell(s), e)
		}
		for range 400 {
			next, e := saga.Apply(s, drawNear(r, s))
			if e != api.OK {
				continue
			}
			if e := saga.Check(next); e != api.OK {
				t.Fatalf("behind %s comes %s: %d", tell(s), tell(next), e)
			}
			s = next
		}
	}
}

// Promise 10.12: a record of an older version does what the lifted one does, taken or refused.
func TestOlderVersions(t *testing.T) {
	t.Parallel()
	var old []api.Record
	for _, r := range slices.Concat(begins(2), followers(2, 2), others()) {
		r.V = 2
		if record.Check(r) == api.OK {
			old = append(old, r)
		}
		if low, e := lift.Down(r, 1); record.Check(r) == api.OK && e == api.OK {
			old = append(old, low)
		}
	}
	taken := map[int]int{}
	for _, c := range reach(begins(2), followers(2, 2)) {
		s := c.saga()
		for _, r := range old {
			up, _ := lift.Up(r, 3)
			got, e := saga.Apply(s, r)
			want, e2 := saga.Apply(s, up)
			if e != e2 || !equal(got, want) {
				t.Fatalf("Apply(%s, %+v) = %s, %d; lifted: %s, %d", tell(s), r, tell(got), e, tell(want), e2)
			}
			if e == api.OK {
				taken[r.V*10+r.Kind]++
			}
		}
	}
	for _, r := range old {
		up, _ := lift.Up(r, 3)
		got, e := saga.Begin(r)
		want, e2 := saga.Begin(up)
		if e != e2 || !equal(got, want) {
			t.Errorf("Begin(%+v) = %s, %d; lifted: %s, %d", r, tell(got), e, tell(want), e2)
		}
	}
	if len(taken) != 12 {
		t.Errorf("records of these versions and kinds were taken: %v", taken)
	}
}

// Promise 10.12: a whole saga, told in the words of version 1.
func TestOldSaga(t *testing.T) {
	type rec = api.Record
	recs := []api.Record{
		{Kind: api.KBegin, Step: 2, Data: []byte("buy")},
		{Kind: api.KStart},
		{Kind: api.KDone, Data: []byte("x")},
		{Kind: api.KStart, Step: 1},
		{Kind: api.KFail, Step: 1, Data: []byte("no")},
		{Kind: api.KUndo},
		{Kind: api.KUndone, Data: []byte("y")},
		{Kind: api.KEnd},
	}
	for i := range recs {
		recs[i].V, recs[i].Saga = 1, 7
	}
	want := api.Saga{
		ID: 7, Name: "buy", Count: 2, Phase: api.Undone, FailStep: 1, Fail: []byte("no"),
		Outs: [][]byte{[]byte("x")}, Undos: [][]byte{[]byte("y")},
	}
	if s, e := play(recs); e != api.OK || !equal(s, want) {
		t.Errorf("it leads to %s, %d", tell(s), e)
	}
	undo, _ := play(recs[:6])
	if got, e := saga.Apply(undo, rec{V: 1, Kind: api.KFail, Saga: 7}); e != api.ErrPhase {
		t.Errorf("a failure of version 1 is always for good, but an undoing takes it: %s, %d", tell(got), e)
	}
}
