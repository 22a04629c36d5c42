package engine_test

import (
	"errors"
	"fmt"
	"math/rand"
	"slices"
	"strings"
	"sync"
	"testing"

	"annals/api"
	"annals/disk"
	"annals/engine"
	"annals/rewrite"
	"annals/store"
)

// room is a list with all its spare room.
func room[T any](list []T) []T { return list[:cap(list)] }

// spare is bytes with spare room behind them that is not zero.
func spare(s string) []byte { return []byte(s + "behind")[:len(s)] }

// scribble writes into a list of bytes, and behind its end.
func scribble(b []byte) {
	for i := range room(b) {
		room(b)[i] ^= 0x5a
	}
}

// scribbleState writes into all lists of a state, and behind their ends.
func scribbleState(st api.State) {
	for i, s := range room(st.Sagas) {
		for _, b := range lists(s) {
			scribble(b)
		}
		for _, all := range [][][]byte{s.Outs, s.Undos} {
			for k := range room(all) {
				room(all)[k] = []byte("scribble")
			}
		}
		room(st.Sagas)[i] = api.Saga{ID: -1}
	}
}

// lists is all lists of bytes of a saga.
func lists(s api.Saga) [][]byte { return slices.Concat([][]byte{s.Input, s.Fail}, s.Outs, s.Undos) }

// sight is all that can be seen of an engine.
func sight(t *testing.T, d *disk.Disk, e *engine.Engine) string {
	t.Helper()
	return tell(e.State()) + tell(e.Out()) + view(d, e.Store()) + tell(listOf(t, e))
}

// rich is an engine with a saga of which all lists hold something, and one whose call is out.
func rich(t *testing.T) (*disk.Disk, *engine.Engine) {
	t.Helper()
	d, e := fresh(t, 1<<16, "job: a~b, c~d, e~f, g~h")
	must(t, e.Begin(2, "job", []byte("the input")))
	for step := range 3 {
		sagaOf(t, e)
		must(t, e.Reply(2, done(fmt.Sprint("what step gave ", step))))
	}
	sagaOf(t, e)
	must(t, e.Reply(2, api.Answer{Outcome: api.RRefused, Code: 7, Data: []byte("why not")}))
	sagaOf(t, e)
	must(t, e.Reply(2, done("undone")))
	must(t, e.Begin(3, "job", []byte("another input")))
	for range 2 {
		sagaOf(t, e)
	}
	return d, e
}

// Rule 3 of the whole: what is handed in is not changed, nor the spare room behind it, and it is not kept.
func TestHandedIn(t *testing.T) {
	d := newDisk(t, 1<<16)
	lines := append(make([]string, 0, 9), pay, "job: a~b")
	room(lines)[2] = "behind"
	e := opened(t, d, lines...)
	if want := []string{pay, "job: a~b", "behind"}; !slices.Equal(room(lines)[:3], want) {
		t.Errorf("the plans: %q", room(lines))
	}
	lines[0], lines[1] = "x: y!", "z: y!"
	data := spare("input")
	must(t, e.Begin(1, "pay", data))
	if string(room(data)[:11]) != "inputbehind" {
		t.Errorf("Begin writes into its data: %q", room(data))
	}
	was := sight(t, d, e)
	scribble(data)
	if sight(t, d, e) != was {
		t.Error("Begin keeps its data")
	}
	asks(t, e, api.Call{Saga: 1, Try: 1, Name: "hold", Data: []byte("input")})
	a := api.Answer{Outcome: api.RDone, Data: spare("gave")}
	must(t, e.Reply(1, a))
	if string(room(a.Data)[:10]) != "gavebehind" {
		t.Errorf("Reply writes into its data: %q", room(a.Data))
	}
	was = sight(t, d, e)
	scribble(a.Data)
	if sight(t, d, e) != was {
		t.Error("Reply keeps its data")
	}
	asks(t, e, api.Call{Saga: 1, Step: 1, Try: 1, Name: "charge", Data: []byte("gave")})
}

// Rule 3 of the whole: whoever writes into an answer, behind its end too, changes nothing else.
func TestAnswersAreNew(t *testing.T) {
	d, e := rich(t)
	was := sight(t, d, e)
	scribbleState(e.State())
	o := e.Out()
	for i := range room(o) {
		room(o)[i] = 77
	}
	if sight(t, d, e) != was {
		t.Fatal("writing into an answer changes the engine")
	}
	for range 2 {
		for _, id := range []int{2, 3} {
			must(t, e.Reply(id, api.Answer{Outcome: api.RLost}))
		}
		was := tell(e.State())
		for range 2 {
			c, is, err := e.Next()
			must(t, err)
			want := map[int]string{2: "what step gave 1", 3: "another input"}[c.Saga]
			if !is || string(c.Data) != want {
				t.Fatalf("%+v, not %q", c, want)
			}
			scribble(c.Data)
		}
		if tell(e.State()) != was {
			t.Error("writing into a call changes the state")
		}
	}
}

// Rule 3 of the whole: no two lists of a state share memory, and a state that was told stays as it is.
func TestListsApart(t *testing.T) {
	_, e := rich(t)
	all := func() [][]byte {
		var out [][]byte
		for _, s := range e.State().Sagas {
			out = append(out, lists(s)...)
		}
		return out
	}
	want := all()
	if len(want) < 8 {
		t.Fatalf("%q", want)
	}
	for n := range want {
		got := all()
		scribble(got[n])
		for k := range got {
			if k != n && string(got[k]) != string(want[k]) {
				t.Errorf("writing into list %d changes list %d", n, k)
			}
		}
	}
	st := e.State()
	was := tell(st)
	must(t, e.Reply(2, done("more")))
	must(t, e.Reply(3, done("more")))
	if tell(st) != was {
		t.Error("a state that was told changes")
	}
}

// Rule 3 of the whole: a fault that is written into is not met again.
func TestFaultsAreNew(t *testing.T) {
	d, e := fresh(t, 300, pay)
	for range 3 {
		err := e.Begin(1, "pay", make([]byte, 280))
		if chain(err) != `'saga 1: append: error 64' engine 1 store append "" -1 64` {
			t.Fatal(chain(err))
		}
		var f *engine.Fault
		var beneath *store.Fault
		errors.As(err, &f)
		errors.As(err, &beneath)
		*beneath = store.Fault{Op: "x"}
		*f = engine.Fault{Saga: 9, Err: api.ErrSum}
	}
	d.Arm(0)
	d.SyncDir()
	for range 3 {
		_, _, err := e.Next()
		refused(t, "Next", err, 0, api.ErrDown)
		var f *engine.Fault
		errors.As(err, &f)
		*f = engine.Fault{Saga: 9, Err: api.ErrSum}
	}
}

// Rule 2 of the whole: an engine that Open did not make has no disk, and says so; nothing panics.
func TestNoEngine(t *testing.T) {
	e := &engine.Engine{}
	refused(t, "Begin", e.Begin(1, "pay", nil), 1, api.ErrDown)
	refused(t, "Begin", e.Begin(1, "pay", make([]byte, 16385)), 1, api.ErrLong)
	refused(t, "Reply", e.Reply(1, done("")), 1, api.ErrDown)
	refused(t, "Reply", e.Reply(0, done(strings.Repeat("x", 16385))), 0, api.ErrLong)
	_, _, err := e.Next()
	refused(t, "Next", err, 0, api.ErrDown)
	_, err = e.Compact()
	refused(t, "Compact", err, 0, api.ErrDown)
	if st := e.State(); st.Count != 0 || len(st.Sagas) != 0 || len(e.Out()) != 0 || e.Store() != nil {
		t.Errorf("%+v, %v, %v", st, e.Out(), e.Store())
	}
}

// meddle changes an engine's store, or its disk, behind its back.
func meddle(r *rand.Rand, d *disk.Disk, s *store.Store) {
	name, to := "MANIFEST", "s3"
	if l := d.List(); len(l) > 0 {
		name, to = pick(r, l...), pick(r, append(l, "s2", "s3", "MANIFEST.tmp")...)
	}
	switch r.Intn(12) {
	case 0:
		d.Remove(name)
	case 1:
		d.Rename(name, to)
	case 2:
		d.Append(name, []byte("rubbish"))
	case 3:
		b, _ := d.Read(name)
		d.Truncate(name, r.Intn(len(b)+1))
	case 4:
		d.Arm(r.Intn(20))
	case 5, 6, 7, 8:
		for _, x := range drawLog(r, 3) {
			s.Append(x)
		}
	case 9:
		s.Append(api.Record{V: 3, Kind: api.KEnd, Saga: 1 + r.Intn(4)})
	case 10:
		s.Replace(3, r.Intn(3), drawLog(r, 3)...)
	case 11:
		rewrite.Compact(s)
	}
}

// Promise 16.9, and rule 3 of the whole: once others append to the store, rewrite it, or change the disk, nothing panics, and what is answered is a fault of this layer or nothing.
func TestMeddling(t *testing.T) {
	t.Parallel()
	told := map[api.Errno]int{}
	hold := func(err error) {
		t.Helper()
		if err == nil {
			told[api.OK]++
			return
		}
		var f *engine.Fault
		var e api.Errno
		if !errors.As(err, &f) || !errors.As(err, &e) || error(f) != err {
			t.Fatalf("%s", chain(err))
		}
		told[e]++
	}
	for seed := range int64(800) {
		r := rand.New(rand.NewSource(seed))
		d, e := fresh(t, pick(r, 300, 1000, 20000), pick(r, plans, plans[:2])...)
		for range 40 {
			if r.Intn(6) == 0 {
				meddle(r, d, e.Store())
			}
			switch r.Intn(8) {
			case 0, 1:
				hold(e.Begin(1+r.Intn(6), pick(r, "pay", "job", "go", "one"), drawData(r)))
			case 2, 3, 4:
				c, is, err := e.Next()
				hold(err)
				if !is && tell(c) != tell(api.Call{}) {
					t.Fatalf("%+v, %v, %v", c, is, err)
				}
			case 5, 6:
				hold(e.Reply(1+r.Intn(6), api.Answer{Outcome: 1 + r.Intn(4), Data: drawData(r)}))
			case 7:
				_, err := e.Compact()
				hold(err)
			}
			e.State()
			e.Out()
		}
	}
	for _, e := range []api.Errno{api.OK, api.ErrDown, api.ErrFull, api.ErrLost, api.ErrCorrupt, api.ErrIllegal, api.ErrNoPlan, api.ErrNoSaga, api.ErrFlight} {
		if told[e] == 0 {
			t.Errorf("%d never came: %v", int(e), told)
		}
	}
}

// Engines side by side, each on a disk of its own, have nothing in common.
func TestSideBySide(t *testing.T) {
	var group sync.WaitGroup
	got := make([]string, 8)
	for i := range got {
		d, e := fresh(t, 1<<16, plans...)
		group.Go(func() {
			for id := 1; id <= 5; id++ {
				e.Begin(id, "pay", []byte("x"))
			}
			for range 30 {
				if c, is, _ := e.Next(); is {
					e.Reply(c.Saga, done(c.Name))
				}
			}
			got[i] = tell(e.State()) + raw(d.Files())
		})
	}
	group.Wait()
	for i := range got {
		if got[i] != got[0] || !strings.Contains(got[0], "Phase:3") {
			t.Errorf("engine %d: %q", i, got[i])
		}
	}
}
