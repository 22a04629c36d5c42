package saga_test

import (
	"math"
	"slices"
	"strings"
	"testing"

	"annals/api"
	"annals/record"
	"annals/saga"
)

// The calls are those that the chapter lists.
var (
	_ func(api.Record) (api.Saga, api.Errno)           = saga.Begin
	_ func(api.Saga, api.Record) (api.Saga, api.Errno) = saga.Apply
	_ func(api.Saga) bool                              = saga.Finished
	_ func(api.Saga) []int                             = saga.Allowed
	_ func(api.Saga) []int                             = saga.Pending
	_ func(api.Saga) api.Saga                          = saga.Clone
	_ func(api.Saga) api.Errno                         = saga.Check
	_ func(api.Saga) ([]api.Record, api.Errno)         = saga.Story
)

// of is a record of saga 7 and version 3.
func of(r api.Record) api.Record {
	r.V, r.Saga = 3, 7
	return r
}

// with is a saga with something changed.
func with(s api.Saga, change func(s *api.Saga)) api.Saga {
	change(&s)
	return s
}

// The sagas of the chapter's examples.
var (
	b  = of(api.Record{Kind: api.KBegin, At: 5, Count: 2, Pivot: 1, Name: "buy", Data: []byte("in")})
	s0 = api.Saga{ID: 7, Name: "buy", Count: 2, Pivot: 1, Begun: 5, At: 5, Input: []byte("in"), Phase: api.Running}
	s1 = with(s0, func(s *api.Saga) { s.At, s.Flight, s.Tries = 6, true, 1 })
	s2 = with(s0, func(s *api.Saga) { s.At, s.Tries = 7, 1 })
	s3 = with(s0, func(s *api.Saga) { s.At, s.Next, s.Outs = 9, 1, [][]byte{[]byte("x")} })
	s4 = with(s3, func(s *api.Saga) { s.Flight, s.Tries = true, 1 })
	s5 = with(s3, func(s *api.Saga) { s.Next, s.Outs = 2, [][]byte{[]byte("x"), nil} })
	s6 = with(s5, func(s *api.Saga) { s.At, s.Phase = 10, api.Whole })
	s7 = with(s0, func(s *api.Saga) { s.At, s.Phase, s.FailCode, s.Fail = 7, api.Undoing, -3, []byte("no") })
	s8 = with(s7, func(s *api.Saga) { s.At, s.Phase = 8, api.Undone })
)

// Promises 10.1, 10.2: the chapter's examples.
func TestExamples(t *testing.T) {
	if s, e := saga.Begin(b); e != api.OK || !equal(s, s0) {
		t.Errorf("Begin(B) = %s, %d", tell(s), e)
	}
	if s, e := saga.Begin(of(api.Record{Kind: api.KStart, Try: 1})); e != api.ErrBegin || !equal(s, api.Saga{}) {
		t.Errorf("Begin of a start = %s, %d", tell(s), e)
	}
	start2 := with(s2, func(s *api.Saga) { s.At, s.Flight, s.Tries = 8, true, 2 })
	type rec = api.Record
	rows := []struct {
		s    api.Saga
		r    api.Record
		want api.Saga
		e    api.Errno
	}{
		{s: s0, r: b, e: api.ErrBegin},
		{s: s0, r: rec{Kind: api.KStart, Step: 1, Try: 1}, e: api.ErrStep},
		{s: s0, r: rec{Kind: api.KStart, Try: 2}, e: api.ErrTry},
		{s: s0, r: rec{Kind: api.KDone}, e: api.ErrFlight},
		{s: s0, r: rec{Kind: api.KUndo, Try: 1}, e: api.ErrPhase},
		{s: s0, r: rec{Kind: api.KEnd}, e: api.ErrStep},
		{s: s0, r: rec{Kind: api.KStart, Try: 1, At: 6}, want: s1},
		{s: s1, r: rec{Kind: api.KStart, Try: 2}, e: api.ErrFlight},
		{s: s1, r: rec{Kind: api.KFail, At: 7}, want: s2},
		{s: s2, r: rec{Kind: api.KStart, Try: 1}, e: api.ErrTry},
		{s: s2, r: rec{Kind: api.KStart, Try: 2, At: 8}, want: start2},
		{s: start2, r: rec{Kind: api.KDone, At: 9, Data: []byte("x")}, want: s3},
		{s: s3, r: rec{Kind: api.KStart, Step: 1, Try: 1, At: 9}, want: s4},
		{s: s4, r: rec{Kind: api.KFail, Step: 1, Last: 1}, e: api.ErrPivot},
		{s: s4, r: rec{Kind: api.KDone, Step: 1, At: 9}, want: s5},
		{s: s5, r: rec{Kind: api.KEnd, Code: 2}, e: api.ErrCode},
		{s: s5, r: rec{Kind: api.KEnd, Code: 1, At: 10}, want: s6},
		{s: s6, r: rec{Kind: api.KEnd}, e: api.ErrEnded},
		{s: s1, r: rec{Kind: api.KFail, Last: 1, Code: -3, Data: []byte("no"), At: 7}, want: s7},
		{s: s7, r: rec{Kind: api.KEnd, At: 8}, want: s8},
	}
	for i, row := range rows {
		if s, e := saga.Apply(row.s, of(row.r)); e != row.e || !equal(s, row.want) {
			t.Errorf("row %d: Apply = %s, %d", i, tell(s), e)
		}
	}
}

// Promises 10.4, 10.5, 10.6, 10.7: the chapter's examples.
func TestExamplesAsked(t *testing.T) {
	for i, row := range []struct {
		s       api.Saga
		allowed []int
		pending []int
	}{
		{s0, []int{api.KStart}, nil},
		{s1, []int{api.KDone, api.KFail}, nil},
		{s3, []int{api.KStart}, nil},
		{with(s3, func(s *api.Saga) { s.Pivot = 0 }), []int{api.KStart}, []int{0}},
		{s5, []int{api.KEnd}, nil},
		{s6, nil, nil},
	} {
		if got := saga.Allowed(row.s); !slices.Equal(got, row.allowed) {
			t.Errorf("row %d: Allowed = %v", i, got)
		}
		if got := saga.Pending(row.s); !slices.Equal(got, row.pending) {
			t.Errorf("row %d: Pending = %v", i, got)
		}
		if got := saga.Finished(row.s); got != (i == 5) {
			t.Errorf("row %d: Finished = %v", i, got)
		}
	}
	want := []api.Record{b, of(api.Record{Kind: api.KStart, Try: 1, At: 7}), of(api.Record{Kind: api.KFail, At: 7})}
	if got, e := saga.Story(s2); e != api.OK || !sameRecs(got, want) {
		t.Errorf("Story(S2) = %+v, %d", got, e)
	}
}

// Promise 10.1: what a begin says stands in the saga, at its edges too.
func TestBegin(t *testing.T) {
	long := strings.Repeat("\U00010400", api.MaxName)
	data := make([]byte, api.MaxData)
	for _, r := range []api.Record{
		{V: 3, Saga: 1, Count: 1, Name: "a"},
		{V: 3, Saga: api.MaxID, At: api.MaxID, Count: api.MaxSteps, Pivot: api.MaxSteps, Name: long, Data: data},
		{V: 3, Saga: 9, At: 1, Count: api.MaxSteps, Pivot: 1, Name: "a", Data: []byte{0}},
		{V: 2, Saga: 9, At: 1, Count: api.MaxSteps, Name: "a", Data: []byte{0}},
		{V: 1, Saga: 9, Step: api.MaxSteps, Data: []byte(long)},
		{V: 1, Saga: 9, Step: 1, Data: []byte("a")},
	} {
		r.Kind = api.KBegin
		want := api.Saga{ID: r.Saga, Name: r.Name, Count: r.Count, Pivot: r.Pivot, Begun: r.At, At: r.At, Input: r.Data, Phase: api.Running}
		if r.V == 1 {
			want.Count, want.Name, want.Input = r.Step, string(r.Data), nil
		}
		if s, e := saga.Begin(r); e != api.OK || !equal(s, want) {
			t.Errorf("Begin(%.200q) = %.200s, %d", r.Name, tell(s), e)
		}
	}
}

// Promise 10.1: what record.Check refuses comes first, with its error; then what is no begin.
func TestBeginRefuses(t *testing.T) {
	for kind := api.KStart; kind <= api.KEnd; kind++ {
		for v := 1; v <= 3; v++ {
			r := api.Record{V: v, Kind: kind, Saga: 7}
			if v > 1 && (kind == api.KStart || kind == api.KUndo) {
				r.Try = 1
			}
			if s, e := saga.Begin(r); e != api.ErrBegin || !equal(s, api.Saga{}) {
				t.Errorf("Begin(%+v) = %s, %d", r, tell(s), e)
			}
			r.Saga = 0
			if s, e := saga.Begin(r); e != api.ErrID || !equal(s, api.Saga{}) {
				t.Errorf("Begin(%+v) = %s, %d", r, tell(s), e)
			}
		}
	}
	for _, r := range bad() {
		if s, e := saga.Begin(r); e != record.Check(r) || !equal(s, api.Saga{}) {
			t.Errorf("Begin(%+v) = %s, %d", r, tell(s), e)
		}
	}
}

// bad is records that are not valid, one for each error of record.Check and some more.
func bad() []api.Record {
	out := []api.Record{
		{}, {V: 4, Kind: api.KEnd, Saga: 7}, {V: 3, Saga: 7}, {V: 3, Kind: 8, Saga: 7}, {V: 3, Kind: api.KEnd}, {V: 3, Kind: api.KEnd, Saga: -1},
		{V: 3, Kind: api.KStart, Saga: 7, Try: 1, Last: 1}, {V: 3, Kind: api.KStart, Saga: 7}, {V: 3, Kind: api.KStart, Saga: 7, Try: 1001},
		{V: 3, Kind: api.KDone, Saga: 7, Step: 32}, {V: 3, Kind: api.KDone, Saga: 7, Step: -1}, {V: 3, Kind: api.KDone, Saga: 7, At: -1},
		{V: 3, Kind: api.KFail, Saga: 7, Last: 2}, {V: 3, Kind: api.KFail, Saga: 7, Last: -1}, {V: 2, Kind: api.KFail, Saga: 7, Code: 1},
		{V: 3, Kind: api.KEnd, Saga: 7, Code: 3}, {V: 3, Kind: api.KEnd, Saga: 7, Code: -1}, {V: 2, Kind: api.KEnd, Saga: 7, Code: 1},
		{V: 3, Kind: api.KDone, Saga: 7, Data: make([]byte, api.MaxData+1)},
		{V: 1, Kind: api.KStart, Saga: 7, Try: 1}, {V: 1, Kind: api.KBegin, Saga: 7, Step: 33, Data: []byte("buy")},
		{V: 1, Kind: api.KBegin, Saga: 7, Step: 2}, {V: 1, Kind: api.KBegin, Saga: 7, Step: 2, Data: []byte("2b")},
	}
	for _, change := range []func(r *api.Record){
		func(r *api.Record) { r.Saga = 0 },
		func(r *api.Record) { r.Count = 0 },
		func(r *api.Record) { r.Count = 33 },
		func(r *api.Record) { r.Pivot = 3 },
		func(r *api.Record) { r.Pivot = -1 },
		func(r *api.Record) { r.Name = "" },
		func(r *api.Record) { r.Name = "2b" },
		func(r *api.Record) { r.Step = 1 },
		func(r *api.Record) { r.V = 2 },
		func(r *api.Record) { r.At = math.MinInt },
	} {
		r := b
		change(&r)
		out = append(out, r)
	}
	return out
}

// Promise 10.2: ErrSaga comes ahead of the record's error, and this ahead of all that the saga says.
func TestApplyOrder(t *testing.T) {
	for _, r := range bad() {
		want := record.Check(r)
		if want == api.OK {
			t.Fatalf("%+v is valid", r)
		}
		for _, s := range []api.Saga{s0, s1, s2, s3, s4, s5, s6, s7, s8} {
			if got, e := saga.Apply(s, r); e != want || !equal(got, api.Saga{}) {
				t.Errorf("Apply(%s, %+v) = %s, %d", tell(s), r, tell(got), e)
			}
		}
		if got, e := saga.Apply(api.Saga{}, r); e != api.ErrSaga || !equal(got, api.Saga{}) {
			t.Errorf("Apply of no saga = %s, %d", tell(got), e)
		}
	}
	broken := with(s6, func(s *api.Saga) { s.Next = 1 })
	for _, r := range slices.Concat(begins(1), followers(1, 1), others()) {
		if got, e := saga.Apply(broken, r); e != api.ErrSaga || !equal(got, api.Saga{}) {
			t.Errorf("Apply of a broken saga = %s, %d", tell(got), e)
		}
	}
}

// Promise 10.2: every saga of up to three steps, and every record of many, right and wrong ones: the answer is that of the second reading.
func TestApplyAll(t *testing.T) {
	t.Parallel()
	recs := told(followers(3, 3))
	recs = append(recs, others()...)
	for _, c := range reach(begins(3), told(followers(3, 3))) {
		s := c.saga()
		for _, r := range recs {
			got, e := saga.Apply(s, r)
			want := api.Saga{}
			if next, ok := c.taken(r); ok {
				want = next.saga()
			}
			if e != refused(s, r) || !equal(got, want) {
				t.Fatalf("Apply(%s, %+v) = %s, %d, not %s", tell(s), r, tell(got), e, tell(want))
			}
		}
	}
}

// Promise 10.2: at MaxTry the count of tries stays, and goes on being asked for.
func TestTries(t *testing.T) {
	back := with(s3, func(s *api.Saga) { s.Pivot, s.Phase, s.FailStep = 0, api.Undoing, 1 })
	for kind, s := range map[int]api.Saga{api.KStart: s0, api.KUndo: back} {
		for n := 1; n <= api.MaxTry+3; n++ {
			try := min(n, api.MaxTry)
			for _, wrong := range []int{1, try - 1, try + 1, api.MaxTry} {
				r := of(api.Record{Kind: kind, Try: wrong, At: 7})
				want := api.ErrTry
				if wrong < 1 || wrong > api.MaxTry {
					want = api.ErrBound
				}
				if got, e := saga.Apply(s, r); wrong != try && (e != want || !equal(got, api.Saga{})) {
					t.Fatalf("try %d in the place of %d: %s, %d", wrong, n, tell(got), e)
				}
			}
			next, e := saga.Apply(s, of(api.Record{Kind: kind, Try: try, At: 7}))
			want := with(s, func(s *api.Saga) { s.At, s.Flight, s.Tries = 7, true, try })
			if e != api.OK || !equal(next, want) {
				t.Fatalf("try %d: %s, %d", n, tell(next), e)
			}
			s, e = saga.Apply(next, of(api.Record{Kind: api.KFail, At: n}))
			want = with(want, func(s *api.Saga) { s.At, s.Flight = n, false })
			if e != api.OK || !equal(s, want) {
				t.Fatalf("the failure of try %d: %s, %d", n, tell(s), e)
			}
		}
	}
}

// Promise 10.2: a failure for good is taken up to the pivot's step and with it, and at every step if there is no pivot.
func TestPivot(t *testing.T) {
	for pivot := range api.MaxSteps + 1 {
		s, _ := saga.Begin(of(api.Record{Kind: api.KBegin, Count: api.MaxSteps, Pivot: pivot, Name: "buy"}))
		for step := range api.MaxSteps {
			flying, e := saga.Apply(s, of(api.Record{Kind: api.KStart, Step: step, Try: 1}))
			if e != api.OK {
				t.Fatal(e)
			}
			fail := of(api.Record{Kind: api.KFail, Step: step, Last: 1, Code: math.MinInt, Data: []byte("f")})
			failed, e := saga.Apply(flying, fail)
			if pivot != 0 && step > pivot-1 {
				if e != api.ErrPivot || !equal(failed, api.Saga{}) {
					t.Errorf("pivot %d: step %d fails: %s, %d", pivot, step, tell(failed), e)
				}
			} else {
				want := with(s, func(s *api.Saga) {
					s.Phase, s.FailStep, s.FailCode, s.Fail = api.Undoing, step, math.MinInt, []byte("f")
				})
				if e != api.OK || !equal(failed, want) {
					t.Errorf("pivot %d: step %d fails: %s, %d", pivot, step, tell(failed), e)
				}
			}
			if s, e = saga.Apply(flying, of(api.Record{Kind: api.KDone, Step: step, Data: []byte{byte(step)}})); e != api.OK {
				t.Fatal(e)
			}
		}
	}
}

// Promises 10.4, 10.5, 10.6: every saga of up to three steps, asked, held against the chapter's words: a kind is allowed if a record of it is taken.
func TestAskedAll(t *testing.T) {
	t.Parallel()
	recs := followers(3, 3)
	for _, c := range reach(begins(3), recs) {
		s := c.saga()
		var allowed, pending []int
		for _, r := range recs {
			if _, ok := c.taken(r); ok && !slices.Contains(allowed, r.Kind) {
				allowed = append(allowed, r.Kind)
			}
		}
		slices.Sort(allowed)
		if s.Phase == api.Undoing || s.Phase == api.Running && s.Next < s.Count && (s.Pivot == 0 || s.Next < s.Pivot) {
			for i := range s.Next {
				pending = append(pending, s.Next-1-i)
			}
		}
		if got := saga.Allowed(s); !slices.Equal(got, allowed) {
			t.Fatalf("Allowed(%s) = %v", tell(s), got)
		}
		if got := saga.Pending(s); !slices.Equal(got, pending) {
			t.Fatalf("Pending(%s) = %v", tell(s), got)
		}
		if got := saga.Finished(s); got != (len(c.of(api.KEnd)) == 1) {
			t.Fatalf("Finished(%s) = %v", tell(s), got)
		}
	}
}

// Promises 10.4, 10.5, 10.6: what is no saga is not finished, allows nothing, and has nothing pending.
func TestAskedOfNone(t *testing.T) {
	for _, s := range []api.Saga{
		{},
		{Phase: api.Whole},
		{Phase: api.Undone},
		with(s6, func(s *api.Saga) { s.Next = 1 }),
		with(s8, func(s *api.Saga) { s.Name = "" }),
		with(s0, func(s *api.Saga) { s.At = 6 }),
		with(s3, func(s *api.Saga) { s.ID, s.Pivot = 0, 0 }),
		with(s7, func(s *api.Saga) { s.Next = 1 }),
		with(s0, func(s *api.Saga) { s.Phase = 5 }),
	} {
		if saga.Finished(s) || len(saga.Allowed(s)) != 0 || len(saga.Pending(s)) != 0 {
			t.Errorf("%s: %v, %v, %v", tell(s), saga.Finished(s), saga.Allowed(s), saga.Pending(s))
		}
	}
}

// Promise 10.6: with 32 steps, too, all done ones are told, the last one first.
func TestPendingMany(t *testing.T) {
	s := api.Saga{ID: 1, Name: "a", Count: api.MaxSteps, Phase: api.Running}
	for n := range api.MaxSteps {
		s.Next, s.Outs = n, make([][]byte, n)
		got := saga.Pending(s)
		slices.Reverse(got)
		if len(got) != n || n > 0 && (got[0] != 0 || got[n-1] != n-1 || !slices.IsSorted(got)) {
			t.Errorf("with %d done steps: %v", n, got)
		}
		s.Phase, s.FailStep = api.Undoing, n
		if back := saga.Pending(s); len(back) != n {
			t.Errorf("with %d steps to undo: %v", n, back)
		}
		s.Phase, s.FailStep = api.Running, 0
	}
}
