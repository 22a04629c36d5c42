package engine_test

import (
	"errors"
	"fmt"
	"math/rand"
	"slices"
	"strconv"
	"strings"
	"testing"

	"annals/api"
	"annals/disk"
	"annals/engine"
	"annals/plan"
	"annals/record"
	"annals/replay"
	"annals/rewrite"
	"annals/store"
)

// tell is all that an answer holds, as a text; nil and empty lists are the same.
func tell(v any) string { return fmt.Sprintf("%+v", v) }

func pick[T any](r *rand.Rand, list ...T) T { return list[r.Intn(len(list))] }

func sameRecs(a, b []api.Record) bool { return slices.EqualFunc(a, b, record.Same) }

func must(t *testing.T, err error) {
	t.Helper()
	if err != nil {
		t.Fatal(err)
	}
}

// chain is all of an error, layer by layer, with its words; none of nil.
func chain(err error) string {
	if err == nil {
		return "none"
	}
	out := "'" + err.Error() + "'"
	for ; err != nil; err = errors.Unwrap(err) {
		switch f := err.(type) {
		case *engine.Fault:
			out += fmt.Sprintf(" engine %d", f.Saga)
		case *rewrite.Fault:
			out += " rewrite " + f.Why
		case *store.Fault:
			out += fmt.Sprintf(" store %s %q %d", f.Op, f.Name, f.At)
		case api.Errno:
			out += fmt.Sprintf(" %d", int(f))
		default:
			out += fmt.Sprintf(" %T", err)
		}
	}
	return out
}

// fault is the chain of an engine's fault with this inside, its words put together here.
func fault(saga int, err error) string {
	words := "engine: "
	if saga != 0 {
		words = fmt.Sprintf("saga %d: ", saga)
	}
	inner := ""
	if c := chain(err); c[0] == '\'' {
		inner = c[len(err.Error())+2:]
	}
	return "'" + words + err.Error() + "' engine " + fmt.Sprint(saga) + inner
}

// twin is a second reading of the chapter: it keeps what is out, the turn and the clock, and asks its own store for all else, each time anew.
type twin struct {
	d     *disk.Disk
	s     *store.Store
	plans []api.Plan
	out   []int
	turn  int
	clock int
}

func (w *twin) plan(name string) (api.Plan, bool) {
	i := slices.IndexFunc(w.plans, func(p api.Plan) bool { return p.Name == name })
	if i < 0 {
		return api.Plan{}, false
	}
	return w.plans[i], true
}

// state is what the store's records fold to; a disk that is down tells none.
func (w *twin) state() api.State {
	recs, _ := w.s.Records()
	st, _ := replay.Fold(recs...)
	return st
}

func (w *twin) saga(id int) (api.Saga, bool) {
	for _, s := range w.state().Sagas {
		if s.ID == id {
			return s, true
		}
	}
	return api.Saga{}, false
}

func twinOpen(d *disk.Disk, o api.Options, lines ...string) (*twin, string) {
	if d == nil {
		return nil, fault(0, api.ErrArg)
	}
	w := &twin{d: d}
	for _, line := range lines {
		p, e, _ := plan.Parse(line)
		if e != api.OK {
			return nil, fault(0, e)
		}
		if _, twice := w.plan(p.Name); twice {
			return nil, fault(0, api.ErrTwice)
		}
		w.plans = append(w.plans, p)
	}
	s, err := store.Open(d, o)
	if err != nil {
		return nil, fault(0, err)
	}
	w.s = s
	recs, _ := s.Records()
	st, at := replay.Fold(recs...)
	if at != -1 {
		return nil, fault(recs[at].Saga, api.ErrIllegal)
	}
	for _, one := range st.Sagas {
		if one.Phase > api.Undoing {
			continue
		}
		p, some := w.plan(one.Name)
		if !some {
			return nil, fault(one.ID, api.ErrNoPlan)
		}
		if len(p.Steps) != one.Count || p.Pivot != one.Pivot {
			return nil, fault(one.ID, api.ErrFit)
		}
	}
	if s.Stat().V < 3 {
		if err := s.Raise(3); err != nil {
			return nil, fault(0, err)
		}
	}
	for _, r := range recs {
		w.clock = max(w.clock, r.At)
	}
	return w, "none"
}

func (w *twin) add(r api.Record) error {
	r.V, r.At = 3, w.clock
	if w.clock < 9223372036854775807 {
		r.At = w.clock + 1
	}
	err := w.s.Append(r)
	if err == nil {
		w.clock = r.At
	}
	return err
}

func (w *twin) begin(id int, name string, data []byte) string {
	p, some := w.plan(name)
	_, known := w.saga(id)
	for _, row := range []struct {
		is bool
		e  api.Errno
	}{
		{len(data) > 16384, 2}, {w.d.Down(), 60}, {id < 1, 32}, {!some, 156}, {known, 160}, {id <= w.s.Stat().Top, 161},
	} {
		if row.is {
			return fault(id, row.e)
		}
	}
	err := w.add(api.Record{Kind: 1, Saga: id, Name: name, Count: len(p.Steps), Pivot: p.Pivot, Data: data})
	if err == nil {
		err = w.s.Sync()
	}
	if err != nil {
		return fault(id, err)
	}
	return "none"
}

// order is the sagas of a round.
func (w *twin) order() []api.Saga {
	var above, others []api.Saga
	for _, s := range w.state().Sagas {
		switch {
		case s.Phase > api.Undoing || slices.Contains(w.out, s.ID):
		case s.ID > w.turn:
			above = append(above, s)
		default:
			others = append(others, s)
		}
	}
	return slices.Concat(above, others)
}

func (w *twin) next() (api.Call, bool, string) {
	if w.d.Down() {
		return api.Call{}, false, fault(0, api.ErrDown)
	}
	for _, s := range w.order() {
		p, _ := w.plan(s.Name)
		a, _ := plan.Next(p, s)
		var err error
		switch a.Kind {
		case api.AEndWhole, api.AEndUndone:
			if err := w.add(api.Record{Kind: 7, Saga: s.ID, Code: a.Kind - 4}); err != nil {
				return api.Call{}, false, fault(s.ID, err)
			}
			continue
		case api.AStart:
			err = w.add(api.Record{Kind: 2, Saga: s.ID, Step: a.Step, Try: a.Try})
		case api.AUndo:
			err = w.add(api.Record{Kind: 5, Saga: s.ID, Step: a.Step, Try: a.Try})
		}
		if err == nil && w.s.Stat().Pending > 0 {
			err = w.s.Sync()
		}
		if err != nil {
			return api.Call{}, false, fault(s.ID, err)
		}
		now, _ := w.saga(s.ID)
		call, _ := plan.Ask(p, now)
		w.out = append(w.out, s.ID)
		w.turn = s.ID
		return call, true, "none"
	}
	if w.s.Stat().Pending > 0 {
		if err := w.s.Sync(); err != nil {
			return api.Call{}, false, fault(0, err)
		}
	}
	return api.Call{}, false, "none"
}

func (w *twin) reply(id int, a api.Answer) string {
	for _, row := range []struct {
		is bool
		e  api.Errno
	}{
		{len(a.Data) > 16384, 2}, {w.d.Down(), 60}, {!slices.Contains(w.out, id), 162}, {a.Outcome < 1 || a.Outcome > 4, 163},
	} {
		if row.is {
			return fault(id, row.e)
		}
	}
	s, _ := w.saga(id)
	p, _ := w.plan(s.Name)
	if r, some, _ := plan.Answer(p, s, a); some {
		if err := w.add(r); err != nil {
			return fault(id, err)
		}
	}
	w.out = slices.DeleteFunc(w.out, func(x int) bool { return x == id })
	return "none"
}

func (w *twin) compact() (api.Report, string) {
	if w.d.Down() {
		return api.Report{}, fault(0, api.ErrDown)
	}
	r, err := rewrite.Compact(w.s)
	if err != nil {
		return r, fault(0, err)
	}
	return r, "none"
}

// raw is files as a text that is made fast.
func raw(files []api.File) string {
	var out strings.Builder
	for _, f := range files {
		out.WriteString(f.Name + " " + strconv.Itoa(len(f.Data)) + " ")
		out.Write(f.Data)
	}
	return out.String()
}

// view is all that can be seen of a disk and a store on it, the crashes that it may leave too.
func view(d *disk.Disk, s *store.Store) string {
	out := tell(s.Stat()) + tell(s.Segments()) + tell(d.Down()) + tell(d.Free()) + raw(d.Files())
	for keep := range 3 {
		out += raw(d.Crash(keep))
	}
	return out
}

// pair is an engine and its twin, each on a disk of its own.
type pair struct {
	quota int
	ed    *disk.Disk
	wd    *disk.Disk
	e     *engine.Engine
	w     *twin
	told  map[string]int // how often what was answered
}

func loaded(t *testing.T, quota int, files ...api.File) *disk.Disk {
	t.Helper()
	d, e := disk.Load(quota, files)
	if e != api.OK {
		t.Fatal("disk.Load:", e)
	}
	return d
}

// open opens both over these files.
func (p *pair) open(t *testing.T, files []api.File, arm int, o api.Options, plans ...string) bool {
	t.Helper()
	p.ed, p.wd = loaded(t, p.quota, files...), loaded(t, p.quota, files...)
	p.ed.Arm(arm)
	p.wd.Arm(arm)
	e, err := engine.Open(p.ed, o, plans...)
	w, want := twinOpen(p.wd, o, plans...)
	if chain(err) != want || (e == nil) != (w == nil) || p.ed.Down() != p.wd.Down() || raw(p.ed.Files()) != raw(p.wd.Files()) || raw(p.ed.Crash(1)) != raw(p.wd.Crash(1)) {
		t.Fatalf("16.2: Open: %s, not %s", chain(err), want)
	}
	p.count("open", want)
	p.e, p.w = e, w
	return w != nil
}

// count counts what was told; that of which saga it was is left out.
func (p *pair) count(op, what string) {
	words := strings.Fields(what)
	p.told[op+" "+words[len(words)-1]]++
}

// same holds that the engine is as its twin, behind a call in which the disk went down or not.
func (p *pair) same(t *testing.T, what, got, want string, cut bool) {
	t.Helper()
	if got != want {
		t.Fatalf("%s: %s, not %s", what, got, want)
	}
	if a, b := view(p.ed, p.e.Store()), view(p.wd, p.w.s); a != b {
		t.Fatalf("%s: the disk is\n%q\nnot\n%q", what, a, b)
	}
	if out := slices.Sorted(slices.Values(p.w.out)); !slices.Equal(p.e.Out(), out) {
		t.Fatalf("%s: Out is %v, not %v", what, p.e.Out(), out)
	}
	if !cut && tell(p.e.State()) != tell(p.w.state()) {
		t.Fatalf("%s: the state is\n%+v\nnot\n%+v", what, p.e.State(), p.w.state())
	}
}

// drawData is data of any length that may be, and of one that may not.
func drawData(r *rand.Rand) []byte {
	if r.Intn(60) == 0 {
		return make([]byte, pick(r, 16384, 16385, 40000))
	}
	return []byte(strings.Repeat("d", r.Intn(6)))
}

// step does one drawn call with both.
func (p *pair) step(t *testing.T, r *rand.Rand) {
	t.Helper()
	was := p.ed.Down()
	var what, got, want string
	switch n := r.Intn(20); {
	case n < 4:
		id, name, data := r.Intn(9)-r.Intn(2), pick(r, "pay", "job", "go", "one", "two", "nope", ""), drawData(r)
		if r.Intn(30) == 0 {
			id = pick(r, 9223372036854775807, 9223372036854775806, -9223372036854775808)
		}
		what = fmt.Sprintf("Begin(%d, %s, %d)", id, name, len(data))
		got, want = chain(p.e.Begin(id, name, data)), p.w.begin(id, name, data)
	case n < 10:
		c, is, err := p.e.Next()
		wc, wis, werr := p.w.next()
		what, got, want = "Next()", tell(c)+tell(is)+" "+chain(err), tell(wc)+tell(wis)+" "+werr
	case n < 17:
		id := r.Intn(10) - 1
		if len(p.w.out) > 0 && r.Intn(8) > 0 {
			id = pick(r, p.w.out...)
		}
		a := api.Answer{Outcome: pick(r, 1, 1, 1, 1, 2, 2, 3, 4, 4, 0, 5, -1), Code: pick(r, 0, 1, -1, 7, -9223372036854775808, 9223372036854775807), Data: drawData(r)}
		what = fmt.Sprintf("Reply(%d, %d, %d, %d)", id, a.Outcome, a.Code, len(a.Data))
		got, want = chain(p.e.Reply(id, a)), p.w.reply(id, a)
	case n < 18:
		rep, err := p.e.Compact()
		wrep, werr := p.w.compact()
		what, got, want = "Compact()", tell(rep)+" "+chain(err), tell(wrep)+" "+werr
	case n < 19:
		what, got, want = "Sync()", chain(p.e.Store().Sync()), chain(p.w.s.Sync())
	default:
		if r.Intn(3) > 0 {
			return
		}
		k := r.Intn(12) - 1
		p.ed.Arm(k)
		p.wd.Arm(k)
		return
	}
	p.count(what[:4], want)
	if p.ed.Down() != was {
		p.count(what[:4], "cut")
	}
	p.same(t, what, got, want, p.ed.Down())
}

var plans = []string{"pay: hold~free, charge!, ship", "job: a*2~b, c~d, e*3~f", "go: x!, y", "one: p~q", "two: v*3!"}

// drawLog is a legal log of these plans' sagas, in records of the version v, of which some may not fit.
func drawLog(r *rand.Rand, v int) []api.Record {
	f := replay.NewFolder()
	var out []api.Record
	for range r.Intn(60) {
		x := api.Record{V: v, Kind: 1 + r.Intn(7), Saga: 1 + r.Intn(4)}
		switch {
		case x.Kind == 1 && v == 1:
			x.Step, x.Data = pick(r, 1, 3, 3, 3), []byte(pick(r, "job", "job", "one", "pay"))
		case x.Kind == 1:
			x.Name, x.At = pick(r, "job", "job", "one"), r.Intn(99)
			x.Count = map[string]int{"job": 3, "one": 1}[x.Name]
			if v == 3 {
				x.Name = pick(r, "job", "pay", "go", "two", "one")
				x.Count = map[string]int{"job": 3, "one": 1, "pay": 3, "go": 2, "two": 1}[x.Name]
				x.Pivot = map[string]int{"pay": 2, "go": 1, "two": 1}[x.Name]
			}
		default:
			if x.Kind != 7 {
				x.Step = r.Intn(3)
			}
			if v > 1 && (x.Kind == 2 || x.Kind == 5) {
				x.Try = 1 + r.Intn(2)
			}
			if v > 1 {
				x.At = pick(r, r.Intn(200), r.Intn(200), r.Intn(200), 9223372036854775805)
			}
			if v > 1 && x.Kind == 4 {
				x.Last = r.Intn(2)
			}
		}
		if f.Add(x) == api.OK || r.Intn(400) == 0 && record.Check(x) == api.OK {
			out = append(out, x)
		}
	}
	return out
}

// made is the files of a store with a drawn log of that version.
func made(t *testing.T, r *rand.Rand, quota int) []api.File {
	t.Helper()
	d := loaded(t, quota)
	v := 1 + r.Intn(3)
	s, err := store.Open(d, api.Options{V: v, Limit: pick(r, 64, 200, 4000)})
	if err != nil {
		return nil
	}
	for _, x := range drawLog(r, v) {
		if s.Append(x) != nil {
			break
		}
	}
	s.Sync()
	if r.Intn(3) == 0 {
		rewrite.Compact(s)
	}
	return d.Files()
}

// crashed is what a drawn crash leaves, the same of both disks.
func (p *pair) crashed(r *rand.Rand) []api.File {
	var cuts []api.Cut
	for range r.Intn(8) {
		cuts = append(cuts, api.Cut{Keep: r.Intn(80), Zero: r.Intn(20) - 10})
	}
	return p.ed.Crash(r.Intn(6), cuts...)
}

// Promises 16.1 to 16.9: drawn histories, on disks with and without room, over logs of all versions, with the disk going down and crashes in the midst: the engine answers as its twin, and its disk is as the twin's, what a crash would leave of it too.
func TestTwin(t *testing.T) {
	t.Parallel()
	all := map[string]int{}
	for seed := range int64(500) {
		r := rand.New(rand.NewSource(seed))
		p := &pair{quota: pick(r, 100, 200, 400, 800, 2000, 20000, 100000), told: all}
		var files []api.File
		if r.Intn(2) == 0 {
			files = made(t, r, p.quota)
		}
		for range 4 {
			o := api.Options{V: pick(r, 3, 3, 3, 2, 1, r.Intn(6)-1), Limit: pick(r, 64, 100, 512, 4000, 65536, 63)}
			lines := plans
			if r.Intn(6) == 0 {
				lines = pick(r, plans[:2], plans[1:], []string{"job: a*2~b"}, nil, []string{"pay: hold~free!"}, []string{plans[0], plans[0]}, []string{"job: e!, f, g", plans[2]})
			}
			if !p.open(t, files, pick(r, -1, -1, -1, r.Intn(20)), o, lines...) {
				files = p.crashed(r)
				continue
			}
			for range 10 + r.Intn(60) {
				p.step(t, r)
			}
			files = p.crashed(r)
		}
	}
	for _, what := range []string{
		"open none", "open 3", "open 60", "open 64", "open 93", "open 111", "open 150", "open 154", "open 155", "open 156",
		"Begi none", "Begi 2", "Begi 32", "Begi 60", "Begi 64", "Begi 156", "Begi 160", "Begi 161", "Begi cut",
		"Next none", "Next 60", "Next 64", "Next cut", "Repl none", "Repl 2", "Repl 60", "Repl 64", "Repl 162", "Repl 163", "Repl cut",
		"Comp none", "Comp 60", "Comp 64", "Comp cut",
	} {
		if all[what] == 0 {
			t.Errorf("%q never came: %v", what, all)
		}
	}
}
