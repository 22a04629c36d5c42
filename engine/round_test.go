package engine_test

import (
	"errors"
	"fmt"
	"slices"
	"testing"

	"annals/api"
	"annals/disk"
	"annals/engine"
	"annals/replay"
)

// sagaOf is the saga that Next asks for; 0, if it asks for none.
func sagaOf(t *testing.T, e *engine.Engine) int {
	t.Helper()
	c, is, err := e.Next()
	if err != nil || is != (c.Saga != 0) {
		t.Fatalf("Next: %+v, %v, %v", c, is, err)
	}
	return c.Saga
}

// Promise 16.5: the round goes on above the turn and then begins at the least id, whether the turn's own saga is there or not.
func TestRound(t *testing.T) {
	_, e := fresh(t, 8192, pay)
	all := []int{2, 5, 9, maxID}
	for _, id := range []int{9, maxID, 2, 5} {
		must(t, e.Begin(id, "pay", nil))
	}
	for _, id := range all {
		if got := sagaOf(t, e); got != id {
			t.Fatalf("%d is asked, not %d", got, id)
		}
	}
	if got := sagaOf(t, e); got != 0 {
		t.Fatalf("%d is asked, not none", got)
	}
	lost := api.Answer{Outcome: api.RLost}
	for _, row := range []struct{ back, want []int }{
		{[]int{maxID}, []int{maxID, 0}}, // the turn is the greatest
		{[]int{5, 9, maxID}, []int{5, 9, maxID, 0}},
		{[]int{5}, []int{5, 0}},
		{[]int{2, 5, 9, maxID}, []int{9, maxID, 2, 5, 0}}, // the turn is 5
		{[]int{2, 9}, []int{9, 2, 0}},                     // 5 again, whose call is out
		{[]int{9, 5, 2}, []int{5, 9, 2, 0}},
	} {
		for _, id := range row.back {
			must(t, e.Reply(id, lost))
		}
		for _, id := range row.want {
			if got := sagaOf(t, e); got != id {
				t.Fatalf("%v: %d is asked, not %d", row.back, got, id)
			}
		}
	}
	must(t, e.Begin(3, "pay", nil))
	must(t, e.Begin(1, "pay", nil))
	must(t, e.Reply(2, lost))
	for _, id := range []int{3, 1, 2, 0} { // the turn was 2's
		if got := sagaOf(t, e); got != id {
			t.Fatalf("%d is asked, not %d", got, id)
		}
	}
}

// Promise 16.5: no saga is passed over: if all put off for ever, each of n is asked once in n calls.
func TestNobodyWaitsForEver(t *testing.T) {
	_, e := fresh(t, 1<<20, "go: x!, y")
	const n = 7
	for id := 1; id <= n; id++ {
		must(t, e.Begin(id*10, "go", nil))
		asks(t, e, api.Call{Saga: id * 10, Try: 1, Name: "x"})
		must(t, e.Reply(id*10, done("")))
	}
	for round := range 20 {
		var got []int
		for range n {
			id := sagaOf(t, e)
			got = append(got, id)
			must(t, e.Reply(id, api.Answer{Outcome: api.RAgain + round%2})) // behind the pivot nothing is refused for good
		}
		if !slices.Equal(got, []int{10, 20, 30, 40, 50, 60, 70}) {
			t.Fatalf("round %d: %v", round, got)
		}
	}
	for _, s := range e.State().Sagas {
		if s.Phase != api.Running || s.Next != 1 || s.Tries != 20 {
			t.Errorf("%+v", s)
		}
	}
}

// toEnd is an engine in which the sagas 1 and 3 have only to end, whole and undone, saga 2 is to be begun, and 4 is in flight; the turn is 4's.
func toEnd(t *testing.T, quota int) (*disk.Disk, *engine.Engine) {
	t.Helper()
	d, e := fresh(t, quota, "one: p~q", "two: a~b, c~d")
	for id, name := range []string{"", "one", "two", "one", "one"} {
		if id > 0 {
			must(t, e.Begin(id, name, nil))
			asks(t, e, api.Call{Saga: id, Try: 1, Name: map[string]string{"one": "p", "two": "a"}[name]})
		}
	}
	must(t, e.Reply(4, api.Answer{Outcome: api.RLost}))
	must(t, e.Reply(3, api.Answer{Outcome: api.RRefused}))
	must(t, e.Reply(2, done("x")))
	must(t, e.Reply(1, done("")))
	return d, e
}

// kinds is of each record its saga, kind and code.
func kinds(recs []api.Record) string {
	out := ""
	for _, r := range recs {
		out += fmt.Sprintf("%d:%d:%d ", r.Saga, r.Kind, r.Code)
	}
	return out
}

// Promise 16.5: a saga that has only to end is ended on the way, with its outcome; the round goes on to the one that is to be asked, and stops there.
func TestEnds(t *testing.T) {
	_, e := toEnd(t, 8192)
	was := len(listOf(t, e))
	asks(t, e, api.Call{Saga: 2, Step: 1, Try: 1, Name: "c", Data: []byte("x")})
	if got := kinds(listOf(t, e)[was:]); got != "1:7:1 2:2:0 " || e.Store().Stat().Pending != 0 {
		t.Errorf("%s, %+v", got, e.Store().Stat())
	}
	asks(t, e, api.Call{Saga: 4, Try: 1, Name: "p"})
	if got := kinds(listOf(t, e)[was:]); got != "1:7:1 2:2:0 3:7:2 " || e.Store().Stat().Pending != 0 {
		t.Errorf("%s, %+v", got, e.Store().Stat())
	}
	must(t, e.Reply(4, api.Answer{Outcome: api.RRefused}))
	must(t, e.Reply(2, done("")))
	rests(t, e)
	if got := kinds(listOf(t, e)[was+5:]); got != "2:7:1 4:7:2 " || e.Store().Stat().Pending != 0 {
		t.Errorf("%s, %+v", got, e.Store().Stat())
	}
	rests(t, e)
	phases := ""
	for _, s := range e.State().Sagas {
		phases += fmt.Sprint(s.Phase)
	}
	if phases != "3344" {
		t.Errorf("%s", phases)
	}
}

// Promises 16.5, W4: how many changing calls a Next makes: an Append for each record, and one Sync if something is pending.
func TestChangingCalls(t *testing.T) {
	d, e := fresh(t, 8192, pay)
	count := func(what string, n int, do func()) {
		t.Helper()
		d.Arm(n)
		do()
		if d.Down() {
			t.Fatalf("%s: more than %d changing calls", what, n)
		}
		d.Arm(-1)
	}
	count("nothing to do", 0, func() { rests(t, e) })
	must(t, e.Begin(1, "pay", nil))
	count("a start", 2, func() { asks(t, e, api.Call{Saga: 1, Try: 1, Name: "hold"}) })
	count("all is out", 0, func() { rests(t, e) })
	count("a lost answer", 0, func() { must(t, e.Reply(1, api.Answer{Outcome: api.RLost})) })
	count("asked again", 0, func() { asks(t, e, api.Call{Saga: 1, Try: 1, Name: "hold"}) })
	must(t, e.Begin(2, "pay", nil))
	asks(t, e, api.Call{Saga: 2, Try: 1, Name: "hold"})
	must(t, e.Reply(1, api.Answer{Outcome: api.RLost}))
	count("an answer", 1, func() { must(t, e.Reply(2, done("h"))) })
	count("asked again, another's answer pending", 1, func() { asks(t, e, api.Call{Saga: 1, Try: 1, Name: "hold"}) })
	if n := e.Store().Stat().Pending; n != 0 {
		t.Errorf("%d are pending", n)
	}
	asks(t, e, api.Call{Saga: 2, Step: 1, Try: 1, Name: "charge", Data: []byte("h")})
	must(t, e.Reply(2, api.Answer{Outcome: api.RRefused}))
	count("an undoing", 2, func() { asks(t, e, api.Call{Saga: 2, Undo: true, Try: 1, Name: "free", Data: []byte("h")}) })
	must(t, e.Reply(2, api.Answer{Outcome: api.RLost}))
	count("an undoing asked again", 0, func() { asks(t, e, api.Call{Saga: 2, Undo: true, Try: 1, Name: "free", Data: []byte("h")}) })
	must(t, e.Reply(2, api.Answer{Outcome: api.RRefused})) // an undoing is not refused for good
	asks(t, e, api.Call{Saga: 2, Undo: true, Try: 2, Name: "free", Data: []byte("h")})
	must(t, e.Reply(2, done("")))
	count("an end", 2, func() { rests(t, e) })
	must(t, e.Reply(1, done("")))
	asks(t, e, api.Call{Saga: 1, Step: 1, Try: 1, Name: "charge"})
	must(t, e.Begin(3, "pay", nil))
	asks(t, e, api.Call{Saga: 3, Try: 1, Name: "hold"})
	must(t, e.Reply(3, api.Answer{Outcome: api.RRefused}))
	must(t, e.Store().Sync())
	count("an end alone", 2, func() { rests(t, e) })
	if n := e.Store().Stat().Pending; n != 0 {
		t.Errorf("%d are pending", n)
	}
}

// Promises 16.5, W4: the disk goes down at each changing call of a Next: the fault names the saga whose record was to be appended or whose call was to be told, no call of it is out, and behind a crash it is asked.
func TestNextCutOff(t *testing.T) {
	for n, want := range []string{
		`'saga 1: append: error 60' engine 1 store append "" -1 60`,
		`'saga 2: append: error 60' engine 2 store append "" -1 60`,
		`'saga 2: sync: error 60' engine 2 store sync "" -1 60`,
	} {
		for _, keep := range []int{0, 999} {
			d, e := toEnd(t, 8192)
			d.Arm(n)
			c, is, err := e.Next()
			if chain(err) != want || is || c.Name != "" || len(e.Out()) != 0 {
				t.Errorf("down at %d: %+v, %v, %s, %v", n, c, is, chain(err), e.Out())
			}
			_, _, err = e.Next()
			refused(t, "then", err, 0, api.ErrDown)
			e = opened(t, loaded(t, 8192, d.Crash(0, slices.Repeat([]api.Cut{{Keep: keep}}, 9)...)...), "one: p~q", "two: a~b, c~d")
			asked := map[int]bool{}
			for id := sagaOf(t, e); id != 0; id = sagaOf(t, e) {
				asked[id] = true
			}
			if !asked[2] || asked[1] != (keep == 0) || !asked[4] {
				t.Errorf("down at %d, %d left: %v", n, keep, asked)
			}
		}
	}
	for n, want := range []string{ // a round that asks for nobody
		`'saga 1: append: error 60' engine 1 store append "" -1 60`,
		`'engine: sync: error 60' engine 0 store sync "" -1 60`,
	} {
		d, e := fresh(t, 8192, "one: p~q")
		must(t, e.Begin(1, "one", nil))
		sagaOf(t, e)
		must(t, e.Reply(1, done("")))
		d.Arm(n)
		if _, is, err := e.Next(); is || chain(err) != want {
			t.Errorf("down at %d: %s", n, chain(err))
		}
	}
	d, e := fresh(t, 8192, "one: p~q") // asked again, with another's answer pending
	for id := 1; id <= 2; id++ {
		must(t, e.Begin(id, "one", nil))
		sagaOf(t, e)
	}
	must(t, e.Reply(2, done("")))
	must(t, e.Reply(1, api.Answer{Outcome: api.RLost}))
	d.Arm(0)
	if _, is, err := e.Next(); is || chain(err) != `'saga 1: sync: error 60' engine 1 store sync "" -1 60` || len(e.Out()) != 0 {
		t.Errorf("%s", chain(err))
	}
}

// Promise 16.5: what the store refuses leaves the turn, and no call of that saga is out; what was appended ahead of it stays. So the next round comes to the same saga again, though the one behind it needs no room.
func TestNextRefused(t *testing.T) {
	_, e := fresh(t, 1<<16, "one: p~q", "two: a~b, c~d")
	for id, name := range []string{"one", "one", "two", "one"} {
		must(t, e.Begin(id+1, name, nil))
		sagaOf(t, e)
	}
	for id := 1; id <= 3; id++ {
		must(t, e.Reply(id, done("")))
	}
	must(t, e.Store().Sync())
	blobs, err := e.Store().Blobs()
	must(t, err)
	was := listOf(t, e)
	met := map[int]int{}
	for room := range 120 { // the same on a disk with hardly any room
		d, e := fresh(t, len(blobs[0])+room, "one: p~q", "two: a~b, c~d")
		if e.Store().Append(was[:8]...) != nil || e.Store().Append(was[8:]...) != nil {
			continue
		}
		e, err := engine.Open(d, api.Options{V: 3, Limit: 4096}, "one: p~q", "two: a~b, c~d")
		must(t, err)
		for range 3 {
			c, is, err := e.Next()
			if err == nil {
				break
			}
			var f *engine.Fault
			if !errors.As(err, &f) || is || c.Saga != 0 || !errors.Is(err, api.ErrFull) || len(e.Out()) != 0 {
				t.Fatalf("room %d: %+v, %v, %s", room, c, is, chain(err))
			}
			now := listOf(t, e)[len(was):]
			if want := []string{"", "1:7:1 ", "1:7:1 2:7:1 "}[f.Saga-1]; kinds(now) != want || e.State().Count != len(was)+len(now) {
				t.Fatalf("room %d: %s, %s", room, chain(err), kinds(now))
			}
			met[f.Saga]++
		}
	}
	if met[1] < 3 || met[2] < 3 || met[3] < 3 {
		t.Errorf("refused: %v", met)
	}
}

// Promises 16.5, 16.6: when the segments are spent the store's fault goes up, and a Compact lets all go on.
func TestSegmentsSpent(t *testing.T) {
	d := newDisk(t, 1<<20)
	e, err := engine.Open(d, api.Options{V: 3, Limit: 64}, "one: p~q")
	must(t, err)
	id := 0
	for err == nil {
		id++
		if err = e.Begin(id, "one", make([]byte, 40)); err != nil {
			break
		}
		if _, _, err = e.Next(); err != nil {
			break
		}
		if err = e.Reply(id, done("some more data, and more")); err != nil {
			break
		}
		_, _, err = e.Next()
	}
	var f *engine.Fault
	if !errors.Is(err, api.ErrSegs) || !errors.As(err, &f) || f.Saga != id || e.Store().Stat().Segs != 128 {
		t.Fatalf("%s, %+v", chain(err), e.Store().Stat())
	}
	_, err = e.Compact()
	must(t, err)
	for _, out := range e.Out() {
		must(t, e.Reply(out, done("")))
	}
	rests(t, e)
	must(t, e.Begin(id+1, "one", nil))
	asks(t, e, api.Call{Saga: id + 1, Try: 1, Name: "p"})
}

// Promises 16.4, 16.5: tries that may be tried again are counted to the plan's Tries, and no further.
func TestTries(t *testing.T) {
	_, e := fresh(t, 8192, "job: a*3~b, c*2~d")
	must(t, e.Begin(3, "job", []byte("in")))
	for try := 1; try <= 3; try++ {
		asks(t, e, api.Call{Saga: 3, Try: try, Name: "a", Data: []byte("in")})
		if try < 3 {
			must(t, e.Reply(3, api.Answer{Outcome: api.RAgain, Code: try}))
		}
	}
	must(t, e.Reply(3, done("A")))
	for try := 1; try <= 2; try++ {
		asks(t, e, api.Call{Saga: 3, Step: 1, Try: try, Name: "c", Data: []byte("A")})
		must(t, e.Reply(3, api.Answer{Outcome: api.RAgain, Code: try, Data: []byte("later")}))
	}
	for try := 1; try <= 3; try++ {
		asks(t, e, api.Call{Saga: 3, Undo: true, Try: try, Name: "b", Data: []byte("A")})
		must(t, e.Reply(3, api.Answer{Outcome: []int{api.RAgain, api.RRefused, api.RDone}[try-1], Data: []byte("u")}))
	}
	rests(t, e)
	if s := e.State().Sagas[0]; s.Phase != api.Undone || s.FailStep != 1 || s.FailCode != 2 || string(s.Fail) != "later" || len(s.Undos) != 1 || string(s.Undos[0]) != "u" {
		t.Errorf("%+v", s)
	}
}

// Promises 16.2, 16.5, 16.7: sagas that an old log tells of go on where they stand: one has a step in flight, one an undoing to begin, one an undoing in flight, one only to end.
func TestOldLog(t *testing.T) {
	for v := 1; v <= 2; v++ {
		var recs []api.Record
		add := func(saga, kind, step int) {
			r := api.Record{V: v, Kind: kind, Saga: saga, Step: step}
			switch {
			case v == 1 && kind == api.KBegin:
				r.Step, r.Data = 2, []byte("job")
			case kind == api.KBegin:
				r.Count, r.Name = 2, "job"
			case v == 2 && (kind == api.KStart || kind == api.KUndo):
				r.Try = 1
			case v == 2 && kind == api.KFail:
				r.Last = 1
			}
			if kind == api.KDone {
				r.Data = []byte("gave")
			}
			recs = append(recs, r)
		}
		story := []struct{ kind, step int }{{api.KBegin, 0}, {api.KStart, 0}, {api.KDone, 0}, {api.KStart, 1}, {api.KFail, 1}, {api.KUndo, 0}, {api.KUndone, 0}}
		for saga, n := range map[int]int{1: 4, 2: 5, 3: 6, 4: 7} {
			for _, x := range story[:n] {
				add(saga, x.kind, x.step)
			}
		}
		d, _ := stored(t, 8192, v, recs...)
		e := opened(t, d, "job: a~b, c~d")
		asks(t, e, api.Call{Saga: 1, Step: 1, Try: 1, Name: "c", Data: []byte("gave")})
		for id := 2; id <= 3; id++ {
			asks(t, e, api.Call{Saga: id, Undo: true, Try: 1, Name: "b", Data: []byte("gave")})
		}
		rests(t, e)
		for id := 1; id <= 3; id++ {
			must(t, e.Reply(id, done("")))
		}
		rests(t, e)
		want, at := replay.Fold(listOf(t, e)...)
		if at != -1 || tell(e.State()) != tell(want) {
			t.Errorf("version %d: %+v, not %+v", v, e.State(), want)
		}
		for _, s := range want.Sagas {
			if (s.Phase == api.Whole) != (s.ID == 1) || s.Phase < api.Whole {
				t.Errorf("version %d: %+v", v, s)
			}
		}
	}
}
