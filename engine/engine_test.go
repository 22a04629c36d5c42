package engine_test

import (
	"errors"
	"fmt"
	"slices"
	"strings"
	"testing"

	"annals/api"
	"annals/disk"
	"annals/engine"
	"annals/replay"
	"annals/rewrite"
	"annals/store"
)

// The calls are as the chapter lists them.
var (
	_ func(*disk.Disk, api.Options, ...string) (*engine.Engine, error) = engine.Open
	_ func(*engine.Engine, int, string, []byte) error                  = (*engine.Engine).Begin
	_ func(*engine.Engine) (api.Call, bool, error)                     = (*engine.Engine).Next
	_ func(*engine.Engine, int, api.Answer) error                      = (*engine.Engine).Reply
	_ func(*engine.Engine) []int                                       = (*engine.Engine).Out
	_ func(*engine.Engine) api.State                                   = (*engine.Engine).State
	_ func(*engine.Engine) (api.Report, error)                         = (*engine.Engine).Compact
	_ func(*engine.Engine) *store.Store                                = (*engine.Engine).Store
	_ error                                                            = (*engine.Fault)(nil)
	_ func(*engine.Fault) error                                        = (*engine.Fault).Unwrap
	_                                                                  = engine.Fault{Saga: 0, Err: error(nil)}
)

const maxID = 9223372036854775807 // 2^63 - 1

var usual = api.Options{V: 3, Limit: 512}

const pay = "pay: hold~free, charge!, ship"

func newDisk(t *testing.T, quota int) *disk.Disk {
	t.Helper()
	d, e := disk.New(quota)
	if e != api.OK {
		t.Fatal("disk.New:", e)
	}
	return d
}

func opened(t *testing.T, d *disk.Disk, plans ...string) *engine.Engine {
	t.Helper()
	e, err := engine.Open(d, usual, plans...)
	must(t, err)
	return e
}

func fresh(t *testing.T, quota int, plans ...string) (*disk.Disk, *engine.Engine) {
	t.Helper()
	d := newDisk(t, quota)
	return d, opened(t, d, plans...)
}

// stored is a disk with a store that was made in the version v and has these records.
func stored(t *testing.T, quota, v int, recs ...api.Record) (*disk.Disk, *store.Store) {
	t.Helper()
	d := newDisk(t, quota)
	s, err := store.Open(d, api.Options{V: v, Limit: 512})
	must(t, err)
	for _, r := range recs {
		must(t, s.Append(r))
	}
	must(t, s.Sync())
	return d, s
}

func listOf(t *testing.T, e *engine.Engine) []api.Record {
	t.Helper()
	l, err := e.Store().Records()
	must(t, err)
	return l
}

// asks holds that Next tells this call.
func asks(t *testing.T, e *engine.Engine, want api.Call) {
	t.Helper()
	if c, is, err := e.Next(); err != nil || !is || tell(c) != tell(want) {
		t.Fatalf("Next: %+v, %v, %v, not %+v", c, is, err, want)
	}
}

// rests holds that Next tells no call.
func rests(t *testing.T, e *engine.Engine) {
	t.Helper()
	if c, is, err := e.Next(); err != nil || is || tell(c) != tell(api.Call{}) {
		t.Fatalf("Next: %+v, %v, %v, not none", c, is, err)
	}
}

func done(data string) api.Answer { return api.Answer{Outcome: api.RDone, Data: []byte(data)} }

// refused holds that an error is this saga's fault with just this number inside.
func refused(t *testing.T, what string, err error, saga int, e api.Errno) {
	t.Helper()
	if got, want := chain(err), fault(saga, e); got != want {
		t.Errorf("%s: %s, not %s", what, got, want)
	}
}

// Promises 16.1, 16.4 to 16.8: the chapter's examples, in turn.
func TestExamples(t *testing.T) {
	_, e := fresh(t, 4096, pay)
	must(t, e.Begin(7, "pay", []byte("x")))
	asks(t, e, api.Call{Saga: 7, Try: 1, Name: "hold", Data: []byte("x")})
	rests(t, e)
	if o := e.Out(); !slices.Equal(o, []int{7}) {
		t.Errorf("Out: %v", o)
	}
	must(t, e.Reply(7, done("h1")))
	charge := api.Call{Saga: 7, Step: 1, Try: 1, Name: "charge", Data: []byte("h1")}
	asks(t, e, charge)
	must(t, e.Reply(7, api.Answer{Outcome: api.RLost}))
	asks(t, e, charge)
	must(t, e.Reply(7, api.Answer{Outcome: api.RRefused, Code: 9, Data: []byte("no")}))
	asks(t, e, api.Call{Saga: 7, Undo: true, Try: 1, Name: "free", Data: []byte("h1")})
	must(t, e.Reply(7, done("")))
	rests(t, e)
	if s := e.State().Sagas; len(s) != 1 || s[0].ID != 7 || s[0].Phase != api.Undone || s[0].FailCode != 9 {
		t.Errorf("State: %+v", s)
	}
	refused(t, "Begin", e.Begin(7, "pay", nil), 7, api.ErrKnown)
	if r, err := e.Compact(); err != nil || r.Sagas != 1 || r.After != 0 {
		t.Errorf("Compact: %+v, %v", r, err)
	}
	refused(t, "Begin", e.Begin(7, "pay", nil), 7, api.ErrGone)
	must(t, e.Begin(8, "pay", nil))
	err := e.Reply(5, done(""))
	if err == nil || err.Error() != "saga 5: error 162" || !errors.Is(err, api.ErrNoCall) {
		t.Errorf("Reply: %v", err)
	}
	if err := e.Begin(0, "pay", nil); err == nil || err.Error() != "engine: error 32" {
		t.Errorf("Begin: %v", err)
	}
}

// Promise 16.1: what a fault says in words, and what is inside.
func TestFault(t *testing.T) {
	inner := &store.Fault{Op: "sync", At: -1, Err: api.ErrDown}
	for _, row := range []struct {
		f    engine.Fault
		want string
	}{
		{engine.Fault{}, "engine: nothing"},
		{engine.Fault{Saga: 5}, "saga 5: nothing"},
		{engine.Fault{Saga: -5, Err: api.ErrID}, "saga -5: error 32"},
		{engine.Fault{Saga: maxID, Err: api.ErrKnown}, "saga 9223372036854775807: error 160"},
		{engine.Fault{Err: inner}, "engine: sync: error 60"},
		{engine.Fault{Saga: 12, Err: &rewrite.Fault{Why: "compact", Err: inner}}, "saga 12: compact: sync: error 60"},
		{engine.Fault{Saga: 1, Err: &engine.Fault{}}, "saga 1: engine: nothing"},
	} {
		if row.f.Error() != row.want || row.f.Unwrap() != row.f.Err {
			t.Errorf("%+v: %q, %v", row.f, row.f.Error(), row.f.Unwrap())
		}
	}
}

// Promise 16.1: what goes wrong beneath is found inside, as it came.
func TestChain(t *testing.T) {
	d, e := fresh(t, 200, "one: p~q")
	must(t, e.Begin(1, "one", nil))
	err := e.Begin(2, "one", make([]byte, 150))
	var own *engine.Fault
	var beneath *store.Fault
	if !errors.As(err, &own) || !errors.As(err, &beneath) || !errors.Is(err, api.ErrFull) || own.Saga != 2 || own.Err != error(beneath) || *beneath != (store.Fault{Op: "append", At: -1, Err: api.ErrFull}) {
		t.Errorf("Begin: %s", chain(err))
	}
	asks(t, e, api.Call{Saga: 1, Try: 1, Name: "p"})
	must(t, e.Reply(1, done("")))
	rests(t, e)
	d.Arm(0)
	_, err = e.Compact()
	var middle *rewrite.Fault
	if !errors.As(err, &own) || !errors.As(err, &middle) || !errors.As(err, &beneath) || !errors.Is(err, api.ErrDown) || own.Err != error(middle) || middle.Err != error(beneath) || err.Error() != "engine: compact: replace: error 60" {
		t.Errorf("Compact: %s", chain(err))
	}
}

// begun is a begin of the version 3.
func begun(saga int, name string, count, pivot int) api.Record {
	return api.Record{V: 3, Kind: api.KBegin, Saga: saga, Name: name, Count: count, Pivot: pivot}
}

// Promise 16.2: of several errors the first in the chapter's order is answered, and what is refused ahead of the store leaves the disk as it was.
func TestOpenOrder(t *testing.T) {
	bad := api.Options{V: 9, Limit: 1}
	_, err := engine.Open(nil, bad, "no plan", "no plan")
	refused(t, "no disk", err, 0, api.ErrArg)
	down := newDisk(t, 4096)
	down.Arm(0)
	down.SyncDir()
	_, err = engine.Open(down, bad, pay, "a: b")
	refused(t, "a plan, the disk being down", err, 0, api.ErrUndo)
	_, err = engine.Open(down, bad, pay, pay)
	refused(t, "a plan twice, the disk being down", err, 0, api.ErrTwice)
	d := newDisk(t, 4096)
	d.Arm(0)
	for _, row := range []struct {
		e     api.Errno
		plans []string
	}{
		{api.ErrLine, []string{""}}, {api.ErrMany, []string{"p: " + many(33)}}, {api.ErrLine, []string{pay, pay + " "}},
		{api.ErrTwice, []string{pay, "x: y!", "pay: z!", "nothing"}}, {api.ErrLong, []string{strings.Repeat("a", 65537), "nothing"}},
	} {
		e, err := engine.Open(d, bad, row.plans...)
		refused(t, "a plan", err, 0, row.e)
		if e != nil || d.Down() {
			t.Errorf("beside an error: %v, %v", e, d.Down())
		}
	}
	_, err = engine.Open(down, bad, pay)
	if chain(err) != `'engine: open: error 60' engine 0 store open "" -1 60` {
		t.Errorf("the disk being down: %s", chain(err))
	}
	if e, err := engine.Open(d, bad, pay); e != nil || chain(err) != `'engine: open: error 3' engine 0 store open "" -1 3` || d.Down() {
		t.Errorf("options: %s", chain(err))
	}
}

// many is the text of so many steps, none of them a pivot.
func many(n int) string {
	var steps []string
	for i := range n {
		steps = append(steps, fmt.Sprintf("a%d~b%d", i, i))
	}
	return strings.Join(steps, ", ")
}

// Promise 16.2: no lines make an engine without a plan; it goes on where all sagas have ended.
func TestOpenWithoutPlans(t *testing.T) {
	d, e := fresh(t, 4096)
	refused(t, "Begin", e.Begin(1, "pay", nil), 1, api.ErrNoPlan)
	rests(t, e)
	if st := e.State(); st.Count != 0 || len(st.Sagas) != 0 || len(e.Out()) != 0 {
		t.Errorf("%+v, %v", st, e.Out())
	}
	e = opened(t, d, pay)
	must(t, e.Begin(1, "pay", nil))
	e.Next()
	must(t, e.Reply(1, api.Answer{Outcome: api.RRefused}))
	rests(t, e)
	e = opened(t, d)
	rests(t, e)
	if st := e.State(); st.Count != 4 || len(st.Sagas) != 1 || st.Sagas[0].Phase != api.Undone {
		t.Errorf("%+v", st)
	}
}

// Promise 16.2: a record that may not come tells of the saga that it names, ahead of what plans say; what the store's Open did stays.
func TestOpenIllegal(t *testing.T) {
	rows := []struct {
		saga int
		recs []api.Record
	}{
		{9, []api.Record{begun(4, "nope", 2, 0), {V: 3, Kind: api.KStart, Saga: 9, Try: 1}, {V: 3, Kind: api.KStart, Saga: 4, Try: 2}}},
		{4, []api.Record{begun(4, "pay", 3, 2), begun(5, "pay", 3, 2), begun(4, "pay", 3, 2)}},
		{5, []api.Record{begun(5, "pay", 3, 2), {V: 3, Kind: api.KEnd, Saga: 5}}},
	}
	for i, row := range rows {
		d, s := stored(t, 4096, 3, row.recs...)
		must(t, s.Append(begun(77, "pay", 3, 2))) // not synced yet: Open syncs it
		e, err := engine.Open(d, usual, pay)
		refused(t, fmt.Sprint("row ", i), err, row.saga, api.ErrIllegal)
		back, err := store.Open(loaded(t, 4096, d.Crash(0)...), usual)
		must(t, err)
		if e != nil || back.Stat().Records != len(row.recs)+1 {
			t.Errorf("row %d: %v, %+v", i, e, back.Stat())
		}
	}
}

// Promise 16.2: the first saga by rising id that has not ended and whose plan is not there, or does not fit, is told; ended ones are not looked at. The store is not raised then.
func TestOpenPlans(t *testing.T) {
	old := []api.Record{
		{V: 2, Kind: api.KBegin, Saga: 9, Name: "nope", Count: 1}, {V: 2, Kind: api.KBegin, Saga: 4, Name: "job", Count: 2}, {V: 2, Kind: api.KBegin, Saga: 2, Name: "gone", Count: 1},
		{V: 2, Kind: api.KStart, Saga: 2, Try: 1}, {V: 2, Kind: api.KFail, Saga: 2, Last: 1}, {V: 2, Kind: api.KEnd, Saga: 2},
		{V: 2, Kind: api.KBegin, Saga: 7, Name: "job", Count: 3},
	}
	for i, row := range []struct {
		saga  int
		e     api.Errno
		plans []string
	}{
		{4, api.ErrNoPlan, nil},
		{4, api.ErrNoPlan, []string{"nope: a~b"}},
		{4, api.ErrFit, []string{"job: a~b"}},
		{4, api.ErrFit, []string{"job: a~b, c!"}},
		{7, api.ErrFit, []string{"job: a~b, c~d"}},
		{4, api.ErrFit, []string{"job: a~b, c~d, e~f", "nope: a~b"}},
	} {
		d, s := stored(t, 4096, 2, old...)
		was := s.Stat()
		e, err := engine.Open(d, usual, row.plans...)
		refused(t, fmt.Sprint("row ", i), err, row.saga, row.e)
		now, err := store.Open(d, usual)
		must(t, err)
		if e != nil || now.Stat() != was {
			t.Errorf("row %d: %v, %+v", i, e, now.Stat())
		}
	}
	d, _ := stored(t, 4096, 2, old[:6]...)
	_, err := engine.Open(d, usual, "job: a~b, c~d")
	refused(t, "the last one", err, 9, api.ErrNoPlan)
	opened(t, d, "job: a~b, c~d", "nope: x~y")
}

// Promise 16.2: a store below version 3 is raised, with or without a record, and goes on; one of version 3 is not touched.
func TestOpenRaises(t *testing.T) {
	for v := 1; v <= 3; v++ {
		d, s := stored(t, 4096, v)
		was := s.Stat()
		e, err := engine.Open(d, api.Options{V: 1, Limit: 512}, "old: a~b, c~d")
		must(t, err)
		now := e.Store().Stat()
		if now.V != 3 || v == 3 && now != was || v < 3 && (now.Gen != was.Gen+1 || now.Segs != 2) {
			t.Errorf("version %d: %+v, was %+v", v, now, was)
		}
		must(t, e.Begin(1, "old", nil))
		if l := listOf(t, e); len(l) != 1 || l[0].V != 3 {
			t.Errorf("version %d: %+v", v, l)
		}
	}
	d, s := stored(t, 4096, 1, api.Record{V: 1, Kind: api.KBegin, Saga: 6, Step: 2, Data: []byte("old")}, api.Record{V: 1, Kind: api.KStart, Saga: 6})
	free := d.Free()
	must(t, s.Raise(3))
	need := free - d.Free()
	for more := -1; more <= 60; more++ { // with hardly any room the raising is refused, and what was there stays
		d, s := stored(t, 4096-free+need+more, 1, listed(t, s)[:2]...)
		was := s.Stat()
		e, err := engine.Open(d, usual, "old: a~b, c~d")
		if err != nil {
			if e != nil || chain(err) != `'engine: raise: error 64' engine 0 store raise "" -1 64` || s.Stat() != was {
				t.Errorf("%d more: %s", more, chain(err))
			}
			continue
		}
		if more == -1 || e.Store().Stat().V != 3 {
			t.Errorf("%d more: %+v", more, e.Store().Stat())
		}
		return
	}
	t.Error("it is always refused")
}

func listed(t *testing.T, s *store.Store) []api.Record {
	t.Helper()
	l, err := s.Records()
	must(t, err)
	return l
}

// Promise 16.2: behind Open no call is out, whatever was out ahead of it, and the turn is 0.
func TestOpenBegins(t *testing.T) {
	d, e := fresh(t, 4096, pay)
	for id := 1; id <= 3; id++ {
		must(t, e.Begin(id, "pay", nil))
	}
	for id := 1; id <= 2; id++ {
		asks(t, e, api.Call{Saga: id, Try: 1, Name: "hold"})
	}
	e = opened(t, d, pay)
	if len(e.Out()) != 0 {
		t.Errorf("Out: %v", e.Out())
	}
	refused(t, "Reply", e.Reply(1, done("")), 1, api.ErrNoCall)
	for id := 1; id <= 3; id++ {
		asks(t, e, api.Call{Saga: id, Try: 1, Name: "hold"})
	}
}

// Promises 16.2, 16.3: the clock is the greatest time of all records, of whatever sagas and versions, and goes up by one with each record; at its end it stays.
func TestClock(t *testing.T) {
	for _, row := range []struct {
		name string
		recs []api.Record
		want []int
	}{
		{"no record", nil, []int{1, 2, 3, 4}},
		{"version 1", []api.Record{{V: 1, Kind: api.KBegin, Saga: 1, Step: 1, Data: []byte("one")}}, []int{1, 2, 3, 4}},
		{"not the last one", []api.Record{{V: 2, Kind: api.KBegin, Saga: 1, Name: "one", Count: 1, At: 50}, {V: 2, Kind: api.KStart, Saga: 1, Try: 1, At: 40}}, []int{51, 52, 53, 54}},
		{"of an ended one", []api.Record{{V: 3, Kind: api.KBegin, Saga: 1, Name: "x", Count: 1, At: 5}, {V: 3, Kind: api.KStart, Saga: 1, Try: 1, At: 70}, {V: 3, Kind: api.KFail, Last: 1, Saga: 1, At: 6}, {V: 3, Kind: api.KEnd, Saga: 1, At: 6}}, []int{71, 72, 73, 74}},
		{"near the end", []api.Record{{V: 3, Kind: api.KBegin, Saga: 1, Name: "one", Count: 1, At: maxID - 2}}, []int{maxID - 1, maxID, maxID, maxID}},
		{"at the end", []api.Record{{V: 3, Kind: api.KBegin, Saga: 1, Name: "one", Count: 1, At: maxID}}, []int{maxID, maxID, maxID, maxID}},
	} {
		d, s := stored(t, 8192, 1)
		for _, r := range row.recs {
			must(t, s.Raise(max(s.Stat().V, r.V)))
			must(t, s.Append(r))
		}
		e := opened(t, d, "one: p~q")
		must(t, e.Begin(10, "one", nil))
		for range 3 { // saga 1 is asked, if it has not ended, and saga 10
			_, _, err := e.Next()
			must(t, err)
		}
		must(t, e.Reply(10, done("")))
		rests(t, e)
		var got []int
		for _, r := range listOf(t, e)[len(row.recs):] {
			got = append(got, r.At)
			if r.V != 3 {
				t.Errorf("%s: %+v", row.name, r)
			}
		}
		if !slices.Equal(got[:4], row.want) {
			t.Errorf("%s: %v, not %v", row.name, got, row.want)
		}
	}
}

// Promise 16.3: a record that the store refuses leaves the clock as it was; so does a Compact that drops the latest record.
func TestClockStays(t *testing.T) {
	_, e := fresh(t, 300, "one: p~q")
	must(t, e.Begin(1, "one", nil))
	for range 3 {
		if err := e.Begin(2, "one", make([]byte, 290)); !errors.Is(err, api.ErrFull) {
			t.Fatal(err)
		}
	}
	asks(t, e, api.Call{Saga: 1, Try: 1, Name: "p"})
	for range 3 {
		if err := e.Reply(1, done(strings.Repeat("x", 290))); !errors.Is(err, api.ErrFull) {
			t.Fatal(err)
		}
	}
	must(t, e.Reply(1, done("")))
	rests(t, e)
	for i, r := range listOf(t, e) {
		if r.At != i+1 {
			t.Errorf("record %d: %+v", i, r)
		}
	}
	if _, err := e.Compact(); err != nil {
		t.Fatal(err)
	}
	must(t, e.Begin(2, "one", nil))
	if l := listOf(t, e); len(l) != 1 || l[0].At != 5 {
		t.Errorf("behind Compact: %+v", l)
	}
}

// Promise 16.4: each error comes ahead of those behind it, and what is refused changes nothing.
func TestBeginOrder(t *testing.T) {
	d, e := fresh(t, 30000, pay, "one: p~q")
	must(t, e.Begin(5, "one", nil))
	asks(t, e, api.Call{Saga: 5, Try: 1, Name: "p"})
	must(t, e.Reply(5, done("")))
	rests(t, e)
	if _, err := e.Compact(); err != nil {
		t.Fatal(err)
	}
	must(t, e.Begin(9, "one", nil))
	must(t, e.Begin(11, "one", nil))
	asks(t, e, api.Call{Saga: 9, Try: 1, Name: "p"})
	must(t, e.Reply(9, done("")))
	asks(t, e, api.Call{Saga: 11, Try: 1, Name: "p"})
	rests(t, e) // saga 9 ends
	long := make([]byte, 16385)
	was := view(d, e.Store()) + tell(e.State()) + tell(e.Out())
	for _, row := range []struct {
		id   int
		plan string
		data []byte
		e    api.Errno
	}{
		{0, "nope", long, api.ErrLong}, {9, "pay", long, api.ErrLong}, {5, "pay", long, api.ErrLong}, {20, "pay", long, api.ErrLong},
		{0, "nope", nil, api.ErrID}, {-1, "pay", nil, api.ErrID}, {-9223372036854775808, "", nil, api.ErrID},
		{9, "nope", nil, api.ErrNoPlan}, {5, "", nil, api.ErrNoPlan}, {20, "Pay", nil, api.ErrNoPlan}, {20, "hold", nil, api.ErrNoPlan}, {20, pay, nil, api.ErrNoPlan},
		{9, "pay", nil, api.ErrKnown}, {11, "one", nil, api.ErrKnown}, // ended or not
		{1, "pay", nil, api.ErrGone}, {4, "pay", nil, api.ErrGone}, {5, "one", nil, api.ErrGone},
	} {
		refused(t, fmt.Sprintf("Begin(%d, %q, %d)", row.id, row.plan, len(row.data)), e.Begin(row.id, row.plan, row.data), row.id, row.e)
	}
	if now := view(d, e.Store()) + tell(e.State()) + tell(e.Out()); now != was {
		t.Error("a refused Begin changes something")
	}
	must(t, e.Begin(6, "pay", long[:16384]))
	must(t, e.Begin(maxID, "pay", nil))
	d.Arm(0)
	d.SyncDir()
	refused(t, "long, the disk being down", e.Begin(0, "nope", long), 0, api.ErrLong)
	refused(t, "no id, the disk being down", e.Begin(0, "nope", nil), 0, api.ErrDown)
	refused(t, "the disk being down", e.Begin(20, "pay", nil), 20, api.ErrDown)
}

// Promise 16.4: an id below Top that is still there is known, not gone.
func TestKnownBelowTop(t *testing.T) {
	_, e := fresh(t, 4096, "one: p~q")
	must(t, e.Begin(3, "one", nil))
	must(t, e.Begin(8, "one", nil))
	asks(t, e, api.Call{Saga: 3, Try: 1, Name: "p"})
	asks(t, e, api.Call{Saga: 8, Try: 1, Name: "p"})
	must(t, e.Reply(8, done("")))
	rests(t, e)
	_, err := e.Compact()
	must(t, err)
	refused(t, "Begin(3)", e.Begin(3, "one", nil), 3, api.ErrKnown)
	refused(t, "Begin(4)", e.Begin(4, "one", nil), 4, api.ErrGone)
	refused(t, "Begin(8)", e.Begin(8, "one", nil), 8, api.ErrGone)
	must(t, e.Begin(9, "one", nil))
}

// Promise 16.4: the begin says what the plan and the caller say, and with nil it is durable: an Append and a Sync, and nothing else.
func TestBegin(t *testing.T) {
	d, e := fresh(t, 4096, pay, "job: a*2~b, c~d")
	d.Arm(2)
	must(t, e.Begin(5, "pay", []byte("in")))
	if d.Down() || e.Store().Stat().Pending != 0 {
		t.Fatal("more than an Append and a Sync, or less")
	}
	d.SyncDir()
	if !d.Down() {
		t.Error("less than an Append and a Sync")
	}
	e = opened(t, loaded(t, 4096, d.Crash(0)...), pay, "job: a*2~b, c~d")
	want := []api.Record{{V: 3, Kind: api.KBegin, Saga: 5, At: 1, Count: 3, Pivot: 2, Name: "pay", Data: []byte("in")}}
	if l := listOf(t, e); !sameRecs(l, want) {
		t.Errorf("%+v", l)
	}
	must(t, e.Begin(2, "job", nil))
	want = append(want, api.Record{V: 3, Kind: api.KBegin, Saga: 2, At: 2, Count: 2, Name: "job"})
	if l := listOf(t, e); !sameRecs(l, want) {
		t.Errorf("%+v", l)
	}
	for n := range 2 { // cut off ahead of the Append, and ahead of the Sync
		d := loaded(t, 4096, d.Crash(0)...)
		e := opened(t, d, pay, "job: a*2~b, c~d")
		d.Arm(n)
		if err := e.Begin(9, "pay", nil); chain(err) != []string{`'saga 9: append: error 60' engine 9 store append "" -1 60`, `'saga 9: sync: error 60' engine 9 store sync "" -1 60`}[n] {
			t.Errorf("down at %d: %s", n, chain(err))
		}
	}
}

// Promise 16.6: each error comes ahead of those behind it, and what is refused changes nothing.
func TestReplyOrder(t *testing.T) {
	d, e := fresh(t, 4096, pay)
	must(t, e.Begin(5, "pay", nil))
	must(t, e.Begin(7, "pay", nil))
	asks(t, e, api.Call{Saga: 5, Try: 1, Name: "hold"})
	long := make([]byte, 16385)
	was := view(d, e.Store()) + tell(e.State()) + tell(e.Out())
	for _, row := range []struct {
		saga int
		a    api.Answer
		e    api.Errno
	}{
		{5, api.Answer{Outcome: 1, Data: long}, api.ErrLong}, {7, api.Answer{Outcome: 9, Data: long}, api.ErrLong}, {5, api.Answer{Outcome: 4, Data: long}, api.ErrLong},
		{7, api.Answer{Outcome: 1}, api.ErrNoCall}, {0, api.Answer{Outcome: 1}, api.ErrNoCall}, {-3, api.Answer{Outcome: 9}, api.ErrNoCall}, {8, api.Answer{Outcome: 0}, api.ErrNoCall},
		{5, api.Answer{}, api.ErrOutcome}, {5, api.Answer{Outcome: 5}, api.ErrOutcome}, {5, api.Answer{Outcome: -1}, api.ErrOutcome}, {5, api.Answer{Outcome: maxID}, api.ErrOutcome},
	} {
		refused(t, tell(row.a.Outcome), e.Reply(row.saga, row.a), row.saga, row.e)
	}
	if now := view(d, e.Store()) + tell(e.State()) + tell(e.Out()); now != was {
		t.Error("a refused Reply changes something")
	}
	d.Arm(0)
	d.SyncDir()
	refused(t, "long, the disk being down", e.Reply(5, api.Answer{Data: long}), 5, api.ErrLong)
	refused(t, "no outcome, the disk being down", e.Reply(5, api.Answer{}), 5, api.ErrDown)
	refused(t, "no call, the disk being down", e.Reply(6, api.Answer{}), 6, api.ErrDown)
	if !slices.Equal(e.Out(), []int{5}) {
		t.Errorf("Out: %v", e.Out())
	}
}

// Promise 16.6: each outcome makes the record that the plan says, with a time, by one Append that is not synced; a lost one makes none; in each case the call is no longer out, and another answer has no call.
func TestReply(t *testing.T) {
	for _, row := range []struct {
		a    api.Answer
		want []api.Record
		next api.Call
	}{
		{done("h"), []api.Record{{V: 3, Kind: api.KDone, Saga: 4, At: 3, Data: []byte("h")}}, api.Call{Saga: 4, Step: 1, Try: 1, Name: "c", Data: []byte("h")}},
		{api.Answer{Outcome: api.RAgain, Code: -7, Data: []byte("w")}, []api.Record{{V: 3, Kind: api.KFail, Saga: 4, At: 3, Code: -7, Data: []byte("w")}}, api.Call{Saga: 4, Try: 2, Name: "a"}},
		{api.Answer{Outcome: api.RRefused, Code: maxID}, []api.Record{{V: 3, Kind: api.KFail, Saga: 4, At: 3, Last: 1, Code: maxID}}, api.Call{}},
		{api.Answer{Outcome: api.RLost, Code: 3, Data: []byte("x")}, nil, api.Call{Saga: 4, Try: 1, Name: "a"}},
	} {
		d, e := fresh(t, 4096, "job: a*2~b, c~d")
		must(t, e.Begin(4, "job", nil))
		asks(t, e, api.Call{Saga: 4, Try: 1, Name: "a"})
		d.Arm(len(row.want))
		must(t, e.Reply(4, row.a))
		if l := listOf(t, e); d.Down() || !sameRecs(l[2:], row.want) || e.Store().Stat().Pending != len(row.want) || len(e.Out()) != 0 {
			t.Errorf("%+v: %+v, %+v, %v", row.a, l, e.Store().Stat(), e.Out())
		}
		refused(t, "a second answer", e.Reply(4, row.a), 4, api.ErrNoCall)
		d.Arm(-1)
		if row.next.Name == "" {
			rests(t, e)
			continue
		}
		asks(t, e, row.next)
	}
}

// Promise 16.6: with the store's error the call is still out, and an answer that needs less room is taken.
func TestReplyRefused(t *testing.T) {
	d, e := fresh(t, 200, "job: a*2~b, c~d")
	must(t, e.Begin(4, "job", nil))
	asks(t, e, api.Call{Saga: 4, Try: 1, Name: "a"})
	was := view(d, e.Store()) + tell(e.State())
	for range 3 {
		if err := e.Reply(4, done(strings.Repeat("x", 180))); chain(err) != `'saga 4: append: error 64' engine 4 store append "" -1 64` {
			t.Fatal(chain(err))
		}
	}
	if now := view(d, e.Store()) + tell(e.State()); now != was || !slices.Equal(e.Out(), []int{4}) {
		t.Errorf("Out: %v", e.Out())
	}
	must(t, e.Reply(4, done("x")))
	if len(e.Out()) != 0 {
		t.Errorf("Out: %v", e.Out())
	}
}

// Promise 16.7: Out and State ask the memory alone.
func TestDiskDown(t *testing.T) {
	d, e := fresh(t, 4096, pay)
	for _, id := range []int{30, 4, 9, 22} {
		must(t, e.Begin(id, "pay", nil))
	}
	for _, id := range []int{4, 9, 22, 30} {
		asks(t, e, api.Call{Saga: id, Try: 1, Name: "hold"})
	}
	must(t, e.Reply(9, done("")))
	recs := listOf(t, e)
	d.Arm(0)
	d.SyncDir()
	for range 2 {
		want, _ := replay.Fold(recs...)
		if got := e.State(); tell(got) != tell(want) || got.Count != 9 {
			t.Errorf("State: %+v, not %+v", got, want)
		}
		if o := e.Out(); !slices.Equal(o, []int{4, 22, 30}) {
			t.Errorf("Out: %v", o)
		}
		_, is, err := e.Next()
		refused(t, "Next", err, 0, api.ErrDown)
		rep, err := e.Compact()
		refused(t, "Compact", err, 0, api.ErrDown)
		if is || rep != (api.Report{}) {
			t.Errorf("beside an error: %v, %+v", is, rep)
		}
	}
}

// Promise 16.8: what has ended goes, the rest stays: the calls that are out, the turn, the clock.
func TestCompact(t *testing.T) {
	d, e := fresh(t, 4096, "one: p~q")
	for id := 1; id <= 4; id++ {
		must(t, e.Begin(id, "one", nil))
	}
	for id := 1; id <= 3; id++ {
		asks(t, e, api.Call{Saga: id, Try: 1, Name: "p"})
	}
	must(t, e.Reply(1, done("")))
	must(t, e.Reply(3, done(""))) // the turn is 3's
	asks(t, e, api.Call{Saga: 4, Try: 1, Name: "p"})
	must(t, e.Reply(4, api.Answer{Outcome: api.RLost}))
	if _, err := e.Compact(); err != nil { // nothing has ended yet
		t.Fatal(err)
	}
	must(t, e.Begin(5, "one", nil))
	asks(t, e, api.Call{Saga: 5, Try: 1, Name: "p"}) // the turn was 4's
	must(t, e.Reply(5, done("")))
	asks(t, e, api.Call{Saga: 4, Try: 1, Name: "p"}) // 5 was the turn's; 1 and 3 end on the way to 4
	report, err := e.Compact()
	if err != nil || report.Sagas != 2 {
		t.Fatalf("%+v, %v", report, err)
	}
	want, _ := replay.Fold(listOf(t, e)...)
	if got := e.State(); tell(got) != tell(want) || got.Count != report.After || len(got.Sagas) != 3 {
		t.Errorf("State: %+v, not %+v", got, want)
	}
	if o := e.Out(); !slices.Equal(o, []int{2, 4}) {
		t.Errorf("Out: %v", o)
	}
	must(t, e.Reply(2, api.Answer{Outcome: api.RLost}))
	must(t, e.Reply(4, api.Answer{Outcome: api.RLost}))
	asks(t, e, api.Call{Saga: 2, Try: 1, Name: "p"}) // 5 ends on the way: the turn was 4's
	d.Arm(0)
	if report, err := e.Compact(); err == nil || report != (api.Report{}) {
		t.Errorf("cut off: %+v, %v", report, err)
	}
}

// Promise 16.8: a Compact that is refused for want of room leaves all as it was.
func TestCompactRefused(t *testing.T) {
	d, e := fresh(t, 460, "one: p~q")
	must(t, e.Begin(1, "one", nil))
	asks(t, e, api.Call{Saga: 1, Try: 1, Name: "p"})
	must(t, e.Reply(1, done("")))
	must(t, e.Begin(2, "one", make([]byte, 250)))
	asks(t, e, api.Call{Saga: 2, Try: 1, Name: "p", Data: make([]byte, 250)})
	rests(t, e)
	was := view(d, e.Store()) + tell(e.State()) + tell(e.Out())
	report, err := e.Compact()
	if chain(err) != `'engine: compact: replace: error 64' engine 0 rewrite compact store replace "" -1 64` || report != (api.Report{}) {
		t.Errorf("%+v, %s", report, chain(err))
	}
	if now := view(d, e.Store()) + tell(e.State()) + tell(e.Out()); now != was {
		t.Error("a refused Compact changes something")
	}
}

// Promise 16.9: the store is always the same one, and whoever syncs it hinders nothing.
func TestStore(t *testing.T) {
	_, e := fresh(t, 4096, pay)
	s := e.Store()
	if s == nil {
		t.Fatal("no store")
	}
	must(t, e.Begin(1, "pay", nil))
	asks(t, e, api.Call{Saga: 1, Try: 1, Name: "hold"})
	must(t, e.Reply(1, done("h")))
	must(t, s.Sync())
	asks(t, e, api.Call{Saga: 1, Step: 1, Try: 1, Name: "charge", Data: []byte("h")})
	must(t, e.Reply(1, api.Answer{Outcome: api.RRefused}))
	asks(t, e, api.Call{Saga: 1, Undo: true, Try: 1, Name: "free", Data: []byte("h")})
	must(t, e.Reply(1, done("")))
	rests(t, e)
	_, err := e.Compact()
	must(t, err)
	if e.Store() != s {
		t.Error("another store")
	}
}
