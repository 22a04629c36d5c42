package plan_test

import (
	"fmt"
	"math"
	"strings"
	"testing"

	"annals/api"
	"annals/plan"
)

// wide is 48 runes of four bytes each, the longest name that there is.
var wide = strings.Repeat("\U00010400", api.MaxName)

// steps is so many steps ahead of the pivot.
func steps(n int) []api.Step {
	var out []api.Step
	for i := range n {
		out = append(out, api.Step{Do: fmt.Sprintf("d%d", i), Undo: fmt.Sprintf("u%d", i), Tries: 1})
	}
	return out
}

// order is the chapter's example.
func order() api.Plan {
	return api.Plan{Name: "order", Pivot: 3, Steps: []api.Step{{Do: "reserve", Undo: "release", Tries: 3}, {Do: "charge", Undo: "refund", Tries: 1}, {Do: "ship", Tries: 2}, {Do: "notify"}}}
}

// with is the plan with a change.
func with(p api.Plan, change func(p *api.Plan)) api.Plan {
	p.Steps = append([]api.Step{}, p.Steps...)
	change(&p)
	return p
}

// Promises 15.1, 15.2: plans that may be, at their edges too.
func TestCheckTakes(t *testing.T) {
	greatest := steps(api.MaxSteps)
	for i, p := range []api.Plan{
		order(),
		{Name: "a", Steps: []api.Step{{Do: "b", Undo: "c", Tries: 1}}},
		{Name: "a", Steps: []api.Step{{Do: "a", Undo: "c", Tries: 1}}}, // the plan's own name is no step's
		{Name: wide, Steps: []api.Step{{Do: wide, Undo: wide[4:], Tries: 1000}}},
		{Name: "a", Pivot: 1, Steps: []api.Step{{Do: "b", Tries: 1}}},
		{Name: "a", Pivot: 1, Steps: []api.Step{{Do: "b", Tries: 1000}, {Do: "c"}, {Do: "d"}}},
		{Name: "a", Pivot: 2, Steps: []api.Step{{Do: "b", Undo: "c", Tries: 1000}, {Do: "d", Tries: 1}}},
		{Name: "a", Steps: greatest},
		{Name: "a", Steps: greatest[:1]},
		with(api.Plan{Name: "a", Pivot: 32, Steps: greatest}, func(p *api.Plan) { p.Steps[31].Undo = "" }),
	} {
		if e := plan.Check(p); e != api.OK {
			t.Errorf("plan %d: Check = %d", i, e)
		}
		if s, e := plan.Print(p); s != secondText(p) || e != api.OK {
			t.Errorf("plan %d: Print = %q, %d", i, s, e)
		}
	}
}

// wrong is values that are no plan, with their error.
func wrong() []struct {
	p api.Plan
	e api.Errno
} {
	var out []struct {
		p api.Plan
		e api.Errno
	}
	add := func(e api.Errno, changes ...func(p *api.Plan)) {
		for _, change := range changes {
			out = append(out, struct {
				p api.Plan
				e api.Errno
			}{with(order(), change), e})
		}
	}
	for _, bad := range []string{"", "2b", "a b", "b\xff", "é!", "-a", strings.Repeat("b", 49), wide + "b"} {
		add(api.ErrLabel, func(p *api.Plan) { p.Name = bad }, func(p *api.Plan) { p.Steps[0].Do = bad }, func(p *api.Plan) { p.Steps[3].Do = bad })
		if bad != "" {
			add(api.ErrLabel, func(p *api.Plan) { p.Steps[1].Undo = bad }, func(p *api.Plan) { p.Steps[3].Undo = bad })
		}
	}
	add(api.ErrMany,
		func(p *api.Plan) { p.Steps = nil },
		func(p *api.Plan) { p.Steps = []api.Step{} },
		func(p *api.Plan) { p.Steps = steps(33) },
		func(p *api.Plan) { p.Steps = make([]api.Step, 1<<20) },
	)
	add(api.ErrBound,
		func(p *api.Plan) { p.Pivot = -1 },
		func(p *api.Plan) { p.Pivot = 5 },
		func(p *api.Plan) { p.Pivot = math.MinInt },
		func(p *api.Plan) { p.Pivot = math.MaxInt },
		func(p *api.Plan) { p.Steps[0].Tries = 0 },
		func(p *api.Plan) { p.Steps[0].Tries = -1 },
		func(p *api.Plan) { p.Steps[1].Tries = 1001 },
		func(p *api.Plan) { p.Steps[2].Tries = 0 },
		func(p *api.Plan) { p.Steps[2].Tries = 1001 },
		func(p *api.Plan) { p.Steps[2].Tries = math.MinInt },
		func(p *api.Plan) { p.Steps[3].Tries = 1 },
		func(p *api.Plan) { p.Steps[3].Tries = -1 },
		func(p *api.Plan) { p.Steps[3].Tries = math.MaxInt },
	)
	add(api.ErrUndo,
		func(p *api.Plan) { p.Steps[0].Undo = "" },
		func(p *api.Plan) { p.Steps[1].Undo = "" },
		func(p *api.Plan) { p.Steps[2].Undo = "x" },
		func(p *api.Plan) { p.Steps[3].Undo = "x" },
		func(p *api.Plan) { p.Pivot = 0 },
		func(p *api.Plan) { p.Pivot = 1 },
		func(p *api.Plan) { p.Pivot = 2 },
		func(p *api.Plan) { p.Pivot = 4 },
	)
	add(api.ErrAgain,
		func(p *api.Plan) { p.Steps[0].Undo = "reserve" },
		func(p *api.Plan) { p.Steps[1].Do = "reserve" },
		func(p *api.Plan) { p.Steps[1].Do = "release" },
		func(p *api.Plan) { p.Steps[1].Undo = "reserve" },
		func(p *api.Plan) { p.Steps[1].Undo = "release" },
		func(p *api.Plan) { p.Steps[1].Undo = "charge" },
		func(p *api.Plan) { p.Steps[2].Do = "refund" },
		func(p *api.Plan) { p.Steps[3].Do = "ship" },
		func(p *api.Plan) { p.Steps[3].Do = "reserve" },
	)
	return out
}

// Promises 15.1, 15.2: values that are no plan, each next to one that is.
func TestCheckRefuses(t *testing.T) {
	for i, c := range wrong() {
		if e := plan.Check(c.p); e != c.e {
			t.Errorf("row %d: Check = %d, not %d", i, e, c.e)
		}
		if s, e := plan.Print(c.p); s != "" || e != c.e {
			t.Errorf("row %d: Print = %q, %d, not %d", i, s, e, c.e)
		}
	}
}

// Promise 15.1: of several errors the first of the chapter's order is told: each row mends what the one ahead of it was refused for.
func TestCheckOrder(t *testing.T) {
	p := api.Plan{Name: "1", Pivot: -1}
	for i, c := range []struct {
		e    api.Errno
		mend func()
	}{
		{api.ErrLabel, func() { p.Name = "a" }},
		{api.ErrMany, func() {
			p.Steps = []api.Step{{Do: "1", Undo: "2"}, {Do: "1", Undo: "x", Tries: 7}, {Do: "b", Tries: 1001}}
		}},
		{api.ErrBound, func() { p.Pivot = 2 }},
		{api.ErrLabel, func() { p.Steps[0].Do = "b" }},
		{api.ErrLabel, func() { p.Steps[0].Undo = "" }},
		{api.ErrUndo, func() { p.Steps[0].Undo = "b" }},
		{api.ErrBound, func() { p.Steps[0].Tries = 1 }},
		{api.ErrAgain, func() { p.Steps[0].Undo = "c" }},
		{api.ErrLabel, func() { p.Steps[1].Do = "b" }},
		{api.ErrUndo, func() { p.Steps[1].Undo = "" }},
		{api.ErrAgain, func() { p.Steps[1].Do = "d" }},
		{api.ErrBound, func() { p.Steps[2].Tries = 0 }},
		{api.ErrAgain, func() { p.Steps[2].Do = "e" }},
		{api.OK, func() {}},
	} {
		if e := plan.Check(p); e != c.e {
			t.Errorf("row %d: Check(%+v) = %d, not %d", i, p, e, c.e)
		}
		c.mend()
	}
}

// Promises 15.1, 15.2, 15.3: of all plans in a box that is wider than plans of up to two steps are, the answers are those of the second reading, and a plan's text is read as the plan.
func TestCheckAll(t *testing.T) {
	t.Parallel()
	var all []api.Step
	for _, do := range []string{"", "a", "b", "1"} {
		for _, undo := range []string{"", "a", "b", "c", "é\xff"} {
			for _, tries := range []int{-1, 0, 1, 2, 1000, 1001} {
				all = append(all, api.Step{Do: do, Undo: undo, Tries: tries})
			}
		}
	}
	seen := map[api.Errno]int{}
	hold := func(p api.Plan) {
		want, _ := secondFault(p)
		seen[want]++
		s, e := plan.Print(p)
		if got := plan.Check(p); got != want || e != want || want != api.OK && s != "" {
			t.Fatalf("%+v: %d, %q, %d, not %d", p, got, s, e, want)
		}
		if want != api.OK {
			return
		}
		if back, e, at := plan.Parse(s); s != secondText(p) || !samePlan(back, p) || e != api.OK || at != 0 {
			t.Fatalf("%+v: its text is %q, read as %+v, %d, %d", p, s, back, e, at)
		}
	}
	for _, one := range all {
		for pivot := -1; pivot <= 2; pivot++ {
			hold(api.Plan{Name: "p", Pivot: pivot, Steps: []api.Step{one}})
			hold(api.Plan{Pivot: pivot, Steps: []api.Step{one}})
		}
		for _, two := range all {
			for pivot := -1; pivot <= 3; pivot++ {
				hold(api.Plan{Name: "p", Pivot: pivot, Steps: []api.Step{one, two}})
			}
		}
	}
	for _, e := range []api.Errno{api.OK, api.ErrLabel, api.ErrBound, api.ErrUndo, api.ErrAgain} {
		if seen[e] == 0 {
			t.Errorf("no plan is answered by %d", e)
		}
	}
}
