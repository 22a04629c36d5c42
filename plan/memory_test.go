package plan_test

import (
	"fmt"
	"math"
	"math/rand"
	"slices"
	"strings"
	"sync"
	"testing"

	"annals/api"
	"annals/plan"
	"annals/record"
	"annals/saga"
)

// room is a list with all its spare room.
func room[T any](list []T) []T { return list[:cap(list)] }

// spare is a list with spare room behind it that is not zero.
func spare[T any](list []T, behind ...T) []T {
	whole := slices.Concat(list, behind)
	return whole[:len(list):len(whole)]
}

// scribble writes into a list, and behind its end.
func scribble[T any](list []T, what T) {
	for i := range room(list) {
		room(list)[i] = what
	}
}

func roomyBytes(b []byte) []byte { return spare(b, []byte("spare")...) }

func roomyLists(lists [][]byte) [][]byte {
	var out [][]byte
	for _, b := range lists {
		out = append(out, roomyBytes(b))
	}
	return spare(out, []byte("spare list"), nil)
}

func roomySaga(s api.Saga) api.Saga {
	s.Input, s.Fail, s.Outs, s.Undos = roomyBytes(s.Input), roomyBytes(s.Fail), roomyLists(s.Outs), roomyLists(s.Undos)
	return s
}

func roomyPlan(p api.Plan) api.Plan {
	p.Steps = spare(p.Steps, api.Step{Do: "spare", Tries: -7})
	return p
}

// sight is all that is handed in, the spare room of its lists too, as a text.
func sight(p api.Plan, s api.Saga, a api.Answer) string {
	lists := func(all [][]byte) [][]byte {
		var out [][]byte
		for _, b := range room(all) {
			out = append(out, room(b))
		}
		return out
	}
	p.Steps, a.Data = room(p.Steps), room(a.Data)
	s.Input, s.Fail, s.Outs, s.Undos = room(s.Input), room(s.Fail), lists(s.Outs), lists(s.Undos)
	return fmt.Sprintf("%+v %+v %+v", p, s, a)
}

func scribbleSaga(s api.Saga) {
	for _, b := range slices.Concat([][]byte{s.Input, s.Fail}, s.Outs, s.Undos) {
		scribble(b, '#')
	}
	scribble(s.Outs, []byte("scribbled"))
	scribble(s.Undos, []byte("scribbled"))
}

// flying is sagas of the chapter's example with a call to be asked, with data in all their lists.
func flying() []api.Saga {
	one := begun(order(), "input")
	one.Flight, one.Tries = true, 2
	two := saga.Clone(one)
	two.Next, two.Outs = 1, [][]byte{[]byte("reserved")}
	three := saga.Clone(one)
	three.Next, three.Outs = 3, [][]byte{[]byte("reserved"), []byte("charged"), []byte("shipped")}
	four := saga.Clone(one)
	four.Phase, four.Next, four.FailStep, four.Fail = api.Undoing, 1, 2, []byte("fail")
	four.Outs, four.Undos = [][]byte{[]byte("reserved"), []byte("charged")}, [][]byte{[]byte("refunded")}
	return []api.Saga{one, two, three, four}
}

// Promise 15.10: nothing that is handed in is changed, nor the spare room behind it; what is answered shares no memory with it, or with another answer.
func TestGivenStaysAsItIs(t *testing.T) {
	for i, s := range flying() {
		for outcome := range 6 {
			p, s, a := roomyPlan(order()), roomySaga(s), api.Answer{Outcome: outcome, Code: 3, Data: roomyBytes([]byte("answered"))}
			was := sight(p, s, a)
			act, e := plan.Next(p, s)
			c, e2 := plan.Ask(p, s)
			r, some, _ := plan.Answer(p, s, a)
			c2, _ := plan.Ask(p, s)
			r2, _, _ := plan.Answer(p, s, a)
			line, e3 := plan.Print(p)
			if e != api.OK || e2 != api.OK || e3 != api.OK || plan.Check(p) != api.OK || sight(p, s, a) != was {
				t.Fatalf("saga %d: %d, %d, %d, or something is changed", i, e, e2, e3)
			}
			wantCall, _ := secondAsk(order(), s)
			wantCall.Data = slices.Clone(wantCall.Data)
			wantRecord, wantSome, _ := secondAnswer(order(), s, a)
			wantRecord.Data = slices.Clone(wantRecord.Data)
			scribble(c.Data, '#')
			scribble(r.Data, '#')
			if sight(p, s, a) != was {
				t.Errorf("saga %d: writing into an answer changes what was given", i)
			}
			scribbleSaga(s)
			scribble(a.Data, '#')
			scribble(p.Steps, api.Step{Do: "scribbled"})
			if !sameCall(c2, wantCall) || !record.Same(r2, wantRecord) || some != wantSome || act.Kind == api.ANone || line != orderText {
				t.Errorf("saga %d: writing into what was given changes an answer: %+v, %+v", i, c2, r2)
			}
		}
	}
}

// Promise 15.10: the steps that Parse and Find tell are the caller's own, and so are the names; a book does not keep the list of lines.
func TestBookIsItsOwn(t *testing.T) {
	lines := spare([]string{orderText, "a: b!", "z: b!"}, "spare", "room")
	k, e, _ := plan.NewBook(lines...)
	if e != api.OK || !slices.Equal(room(lines), []string{orderText, "a: b!", "z: b!", "spare", "room"}) {
		t.Fatalf("%d, or the lines are changed: %q", e, room(lines))
	}
	scribble(lines, "scribbled")
	one, _ := k.Find("order")
	two, _ := k.Find("order")
	names, again := k.Names(), k.Names()
	first, _, _ := plan.Parse(orderText)
	second, _, _ := plan.Parse(orderText)
	scribble(one.Steps, api.Step{Do: "scribbled"})
	scribble(first.Steps, api.Step{Do: "scribbled"})
	scribble(names, "scribbled")
	three, is := k.Find("order")
	for i, p := range []api.Plan{two, three, second} {
		if !samePlan(p, order()) {
			t.Errorf("writing into one plan changes plan %d: %+v", i, p)
		}
	}
	want := []string{"a", "order", "z"}
	if !is || !slices.Equal(again, want) || !slices.Equal(k.Names(), want) {
		t.Errorf("writing into the names changes others: %q, %q", again, k.Names())
	}
	scribble(three.Steps, api.Step{})
	if p, _ := k.Find("a"); !samePlan(p, api.Plan{Name: "a", Pivot: 1, Steps: []api.Step{{Do: "b", Tries: 1}}}) {
		t.Errorf("writing into one plan changes another: %+v", p)
	}
}

// Promise 15.10: one book does not know of another, and calls side by side answer as calls one behind the other.
func TestSideBySide(t *testing.T) {
	shared, _, _ := plan.NewBook(orderText, "a: b!")
	var group sync.WaitGroup
	for w := range 8 {
		group.Go(func() {
			for n := range 200 {
				own, e, _ := plan.NewBook(fmt.Sprintf("p%d: b!", w), "order: x!")
				p, is := shared.Find("order")
				mine, _ := own.Find("order")
				if e != api.OK || !is || !samePlan(p, order()) || mine.Steps[0].Do != "x" || len(shared.Names()) != 2 {
					t.Errorf("worker %d: %d, %+v", w, e, p)
				}
				s := flying()[n%4]
				if a, e := plan.Next(p, s); a != secondNext(order(), s) || e != api.OK {
					t.Errorf("worker %d: Next = %+v, %d", w, a, e)
				}
				if _, e, at := plan.Parse("a: b~c, d"); e != api.ErrUndo || at != 8 {
					t.Errorf("worker %d: %d, %d", w, e, at)
				}
			}
		})
	}
	group.Wait()
}

// drawOdd is a plan and a saga of any values at all.
func drawOdd(r *rand.Rand) (api.Plan, api.Saga) {
	pick := func() int {
		odd := []int{math.MinInt, -1, 0, 0, 1, 1, 2, 3, 4, 31, 32, 33, 1000, 1001, math.MaxInt, int(r.Uint64())}
		return odd[r.Intn(len(odd))]
	}
	name := func() string {
		return []string{"", "order", "a", "b", "\xff", "2", strings.Repeat("x", 49)}[r.Intn(7)]
	}
	p := order()
	for i := range p.Steps {
		if r.Intn(8) == 0 {
			p.Steps[i] = api.Step{Do: name(), Undo: name(), Tries: pick()}
		}
	}
	if r.Intn(4) == 0 {
		p.Name, p.Pivot = name(), pick()
	}
	if r.Intn(4) == 0 {
		p.Steps = p.Steps[:r.Intn(5)]
	}
	all := flying()
	s := all[r.Intn(len(all))]
	numbers := []*int{&s.ID, &s.Count, &s.Pivot, &s.Begun, &s.At, &s.Phase, &s.Next, &s.Tries, &s.FailStep, &s.FailCode}
	for range r.Intn(3) {
		*numbers[r.Intn(len(numbers))] = pick()
	}
	if r.Intn(3) == 0 {
		s.Flight, s.Outs = !s.Flight, make([][]byte, r.Intn(5))
	}
	return p, s
}

// Promise 15.10: no call panics or runs on, whatever it is given; of several errors the first of the chapter's order comes.
func TestAnythingIsTaken(t *testing.T) {
	r := rand.New(rand.NewSource(1510))
	fits := 0
	for range 50000 {
		p, s := drawOdd(r)
		a := api.Answer{Outcome: r.Intn(7) - 1, Code: int(r.Uint64()), Data: make([]byte, []int{0, 1, 16384, 16385}[r.Intn(4)])}
		want, _ := secondFault(p)
		if want == api.OK {
			want = saga.Check(s)
		}
		if want == api.OK && (s.Name != p.Name || s.Count != len(p.Steps) || s.Pivot != p.Pivot) {
			want = api.ErrFit
		}
		got := refusals(t, p, s, a)
		if want != api.OK {
			last := want
			if len(a.Data) > api.MaxData {
				last = api.ErrLong
			}
			if got != [3]api.Errno{want, want, last} {
				t.Fatalf("%+v, %s: %v, not %d", p, tell(s), got, want)
			}
			continue
		}
		fits++
		_, e2 := secondAsk(p, s)
		_, _, e3 := secondAnswer(p, s, a)
		if got != [3]api.Errno{api.OK, e2, e3} {
			t.Fatalf("%+v, %s: %v, not %d and %d", p, tell(s), got, e2, e3)
		}
	}
	if fits < 1000 {
		t.Errorf("only %d sagas fit", fits)
	}
	great := api.Plan{Name: strings.Repeat("x", 1<<24), Pivot: math.MaxInt, Steps: make([]api.Step, 1<<20)}
	if e := plan.Check(great); e != api.ErrLabel {
		t.Errorf("a great plan: %d", e)
	}
	for range 20000 {
		b := make([]byte, r.Intn(20))
		r.Read(b)
		hold(t, string(b))
		hold(t, "a: "+string(b))
	}
}
