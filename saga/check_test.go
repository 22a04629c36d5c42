package saga_test

import (
	"math"
	"strings"
	"testing"

	"annals/api"
	"annals/saga"
)

// u is undoing: of three steps two are done, the third failed for good, one is undone, and the other's undoing is tried for the second time.
var u = api.Saga{
	ID: 7, Name: "buy", Count: 3, Begun: 5, At: 9, Phase: api.Undoing, Next: 1, Flight: true, Tries: 2,
	Outs: [][]byte{[]byte("x"), []byte("y")}, Undos: [][]byte{[]byte("z")}, FailStep: 2, FailCode: 4, Fail: []byte("f"),
}

// cell is a saga's values without its data, by which it is known among others of one name.
type cell struct {
	count, pivot, begun, at, phase, next int
	flight                               bool
	tries, outs, undos                   int
	failStep, failCode, fail             int
}

func cellOf(s api.Saga) cell {
	return cell{s.Count, s.Pivot, s.Begun, s.At, s.Phase, s.Next, s.Flight, s.Tries, len(s.Outs), len(s.Undos), s.FailStep, s.FailCode, len(s.Fail)}
}

// box calls f with every saga whose values lie in a box that is wider than sagas of up to two steps and two tries are.
func box(f func(s api.Saga)) {
	for n := range 2 * 5 * 2 * 2 * 6 * 5 * 2 * 4 * 4 * 4 * 5 * 2 * 2 {
		rest := n
		pick := func(values int) int {
			v := rest % values
			rest /= values
			return v
		}
		f(api.Saga{
			ID: 7, Name: "buy", Count: 1 + pick(2), Pivot: pick(5) - 1, Begun: pick(2), At: pick(2), Phase: pick(6), Next: pick(5) - 1,
			Flight: pick(2) == 1, Tries: pick(4) - 1, Outs: make([][]byte, pick(4)), Undos: make([][]byte, pick(4)),
			FailStep: pick(5) - 1, FailCode: pick(2), Fail: make([]byte, pick(2)),
		})
	}
}

// Promise 10.3: of all sagas in a box, Check takes those that records lead to, by the second reading, and no other.
func TestCheckAll(t *testing.T) {
	t.Parallel()
	reached := map[cell]bool{}
	for _, c := range reach(begins(2), followers(2, 2)) {
		reached[cellOf(c.saga())] = true
	}
	if len(reached) < 500 {
		t.Fatalf("only %d sagas", len(reached))
	}
	found := 0
	box(func(s api.Saga) {
		want := api.ErrSaga
		if reached[cellOf(s)] {
			want = api.OK
			found++
		}
		if e := saga.Check(s); e != want {
			t.Fatalf("Check(%s) = %d", tell(s), e)
		}
	})
	if found != len(reached) {
		t.Errorf("of %d sagas that records lead to, %d lie in the box", len(reached), found)
	}
}

// Promise 10.3: values at their edges are taken.
func TestCheckEdges(t *testing.T) {
	full := make([]byte, api.MaxData)
	all := make([][]byte, api.MaxSteps)
	for i := range all {
		all[i] = full
	}
	for i, s := range []api.Saga{
		s0, s1, s2, s3, s4, s5, s6, s7, s8, u,
		with(s0, func(s *api.Saga) { s.ID = 1 }),
		with(s0, func(s *api.Saga) { s.ID = api.MaxID }),
		with(s0, func(s *api.Saga) { s.Name = "a" }),
		with(s0, func(s *api.Saga) { s.Name = strings.Repeat("\U00010400", api.MaxName) }),
		with(s0, func(s *api.Saga) { s.Count = 1 }),
		with(s0, func(s *api.Saga) { s.Count, s.Pivot = api.MaxSteps, api.MaxSteps }),
		with(s0, func(s *api.Saga) { s.Begun, s.At = 0, 0 }),
		with(s0, func(s *api.Saga) { s.Begun, s.At = api.MaxID, api.MaxID }),
		with(s1, func(s *api.Saga) { s.Begun, s.At = api.MaxID, 0 }),
		with(s1, func(s *api.Saga) { s.Begun, s.At = 0, api.MaxID }),
		with(s1, func(s *api.Saga) { s.Tries = api.MaxTry }),
		with(s2, func(s *api.Saga) { s.Tries = api.MaxTry }),
		with(s0, func(s *api.Saga) { s.Input = full }),
		with(s0, func(s *api.Saga) { s.Input = nil }),
		with(s0, func(s *api.Saga) { s.Input, s.Fail, s.Outs, s.Undos = []byte{}, []byte{}, [][]byte{}, [][]byte{} }),
		with(s7, func(s *api.Saga) { s.FailCode, s.Fail = math.MinInt, full }),
		with(s7, func(s *api.Saga) { s.FailCode, s.Fail = math.MaxInt, nil }),
		with(s6, func(s *api.Saga) { s.Count, s.Pivot, s.Next, s.Outs = api.MaxSteps, 0, api.MaxSteps, all }),
		with(s8, func(s *api.Saga) {
			s.Count, s.Pivot, s.FailStep, s.Outs, s.Undos = api.MaxSteps, 0, api.MaxSteps-1, all[1:], all[1:]
		}),
		with(s8, func(s *api.Saga) {
			s.Count, s.Pivot, s.FailStep, s.Outs, s.Undos = api.MaxSteps, api.MaxSteps, api.MaxSteps-1, all[1:], all[1:]
		}),
	} {
		if e := saga.Check(s); e != api.OK {
			t.Errorf("saga %d: Check = %d", i, e)
		}
	}
}

// broken is values that no saga can have, each next to ones that a saga has.
func broken() []api.Saga {
	var out []api.Saga
	break1 := func(s api.Saga, changes ...func(s *api.Saga)) {
		for _, change := range changes {
			out = append(out, with(s, change))
		}
	}
	above := make([]byte, api.MaxData+1)
	break1(s0,
		func(s *api.Saga) { *s = api.Saga{} },
		func(s *api.Saga) { s.ID = 0 },
		func(s *api.Saga) { s.ID = -7 },
		func(s *api.Saga) { s.ID = math.MinInt },
		func(s *api.Saga) { s.Name = "" },
		func(s *api.Saga) { s.Name = "2b" },
		func(s *api.Saga) { s.Name = "b\xff" },
		func(s *api.Saga) { s.Name = strings.Repeat("b", api.MaxName+1) },
		func(s *api.Saga) { s.Count, s.Pivot = 0, 0 },
		func(s *api.Saga) { s.Count, s.Pivot = -1, 0 },
		func(s *api.Saga) { s.Count = api.MaxSteps + 1 },
		func(s *api.Saga) { s.Count = math.MaxInt },
		func(s *api.Saga) { s.Pivot = -1 },
		func(s *api.Saga) { s.Pivot = 3 },
		func(s *api.Saga) { s.Begun, s.At = -1, -1 },
		func(s *api.Saga) { s.At = 6 },
		func(s *api.Saga) { s.At = 4 },
		func(s *api.Saga) { s.Begun = 6 },
		func(s *api.Saga) { s.Input = above },
		func(s *api.Saga) { s.Phase = 0 },
		func(s *api.Saga) { s.Phase = -1 },
		func(s *api.Saga) { s.Phase = 5 },
		func(s *api.Saga) { s.Phase = api.Whole },
		func(s *api.Saga) { s.Next = -1 },
		func(s *api.Saga) { s.Next = 1 },
		func(s *api.Saga) { s.Next = math.MinInt },
		func(s *api.Saga) { s.Flight = true },
		func(s *api.Saga) { s.Tries = -1 },
		func(s *api.Saga) { s.Outs = make([][]byte, 1) },
		func(s *api.Saga) { s.Undos = make([][]byte, 1) },
		func(s *api.Saga) { s.FailStep = 1 },
		func(s *api.Saga) { s.FailCode = 1 },
		func(s *api.Saga) { s.Fail = []byte("f") },
	)
	break1(s1,
		func(s *api.Saga) { s.Begun = -1 },
		func(s *api.Saga) { s.At = -1 },
		func(s *api.Saga) { s.At = math.MinInt },
		func(s *api.Saga) { s.Tries = 0 },
		func(s *api.Saga) { s.Tries = api.MaxTry + 1 },
		func(s *api.Saga) { s.Tries = -1 },
	)
	break1(s3,
		func(s *api.Saga) { s.Outs = nil },
		func(s *api.Saga) { s.Outs = make([][]byte, 2) },
		func(s *api.Saga) { s.Outs = [][]byte{above} },
		func(s *api.Saga) { s.Next = 0 },
		func(s *api.Saga) { s.Undos = make([][]byte, 1) },
		func(s *api.Saga) { s.Phase = api.Whole },
	)
	break1(s5,
		func(s *api.Saga) { s.Tries = 1 },
		func(s *api.Saga) { s.Tries, s.Flight = 1, true },
		func(s *api.Saga) { s.Flight = true },
		func(s *api.Saga) { s.Next, s.Outs = 3, make([][]byte, 3) },
	)
	break1(s6,
		func(s *api.Saga) { s.Tries = 1 },
		func(s *api.Saga) { s.Tries, s.Flight = 1, true },
		func(s *api.Saga) { s.Next, s.Outs = 1, s.Outs[:1] },
		func(s *api.Saga) { s.Next, s.Outs = 0, nil },
		func(s *api.Saga) { s.Undos = make([][]byte, 2) },
		func(s *api.Saga) { s.FailCode = 1 },
	)
	break1(s7,
		func(s *api.Saga) { s.FailStep = 1 },
		func(s *api.Saga) { s.FailStep = -1 },
		func(s *api.Saga) { s.Next = 1 },
		func(s *api.Saga) { s.Next, s.Undos = -1, make([][]byte, 1) },
		func(s *api.Saga) { s.Tries = 1 },
		func(s *api.Saga) { s.Tries, s.Flight = 1, true },
		func(s *api.Saga) { s.Fail = above },
		func(s *api.Saga) { s.FailStep, s.Outs, s.Undos = 1, make([][]byte, 1), make([][]byte, 1) },
		func(s *api.Saga) { s.Pivot, s.FailStep, s.Outs, s.Undos = 0, 2, make([][]byte, 2), make([][]byte, 2) },
	)
	break1(u,
		func(s *api.Saga) { s.Count = 2 },
		func(s *api.Saga) { s.Pivot = 2 },
		func(s *api.Saga) { s.Pivot = 1 },
		func(s *api.Saga) { s.Outs = s.Outs[:1] },
		func(s *api.Saga) { s.Outs = [][]byte{nil, above} },
		func(s *api.Saga) { s.Undos = nil },
		func(s *api.Saga) { s.Undos = [][]byte{above} },
		func(s *api.Saga) { s.Undos = make([][]byte, 2) },
		func(s *api.Saga) { s.Next, s.Undos = 3, nil },
		func(s *api.Saga) { s.Next = 0 },
		func(s *api.Saga) { s.Tries = 0 },
		func(s *api.Saga) { s.Phase = api.Undone },
		func(s *api.Saga) { s.Phase, s.Flight, s.Tries = api.Undone, false, 0 },
		func(s *api.Saga) { s.Phase = api.Running },
	)
	break1(s8,
		func(s *api.Saga) { s.Tries = 1 },
		func(s *api.Saga) { s.Tries, s.Flight = 1, true },
		func(s *api.Saga) { s.At = -1 },
	)
	return out
}

// Promises 10.3, 10.7: values that no saga can have are refused, and have no story.
func TestBroken(t *testing.T) {
	for i, s := range broken() {
		if e := saga.Check(s); e != api.ErrSaga {
			t.Errorf("broken saga %d: Check = %d", i, e)
		}
		if recs, e := saga.Story(s); len(recs) != 0 || e != api.ErrSaga {
			t.Errorf("broken saga %d: Story = %d records, %d", i, len(recs), e)
		}
		if got, e := saga.Apply(s, b); !equal(got, api.Saga{}) || e != api.ErrSaga {
			t.Errorf("broken saga %d: Apply = %.200s, %d", i, tell(got), e)
		}
		if saga.Finished(s) || len(saga.Allowed(s)) != 0 || len(saga.Pending(s)) != 0 {
			t.Errorf("broken saga %d is asked, and answers", i)
		}
	}
}
