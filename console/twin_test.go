package console_test

import (
	"fmt"
	"math/rand"
	"slices"
	"strings"
	"testing"

	"annals/api"
	"annals/archive"
	"annals/cjson"
	"annals/disk"
	"annals/engine"
	"annals/export"
	"annals/lift"
	"annals/plan"
	"annals/replay"
	"annals/rewrite"
	"annals/store"
	"annals/text"
	"annals/wire"
)

// move is a command with its values, as they are before they are written into a line.
type move struct {
	cmd  string
	nums []int
	name string
	lits []string
	recs []api.Record
	cuts []api.Cut
}

// twin is a second reading of the chapter: it plays moves, not lines, by the calls of the other packages.
type twin struct {
	quota int
	d     *disk.Disk
	s     *store.Store
	e     *engine.Engine
	kept  []byte
}

// ok is an answer of these parts.
func ok(parts ...any) string {
	out := "ok"
	for _, p := range parts {
		out += fmt.Sprintf(" %v", p)
	}
	return out
}

// bad is the answer of a refusal, told layer by layer from the outermost one on.
func bad(err error) string {
	out := ""
	for err != nil {
		switch f := err.(type) {
		case *engine.Fault:
			out, err = out+fmt.Sprintf(" engine %d", f.Saga), f.Err
		case *archive.Fault:
			out, err = out+" archive "+f.Why, f.Err
		case *rewrite.Fault:
			out, err = out+" rewrite "+f.Why, f.Err
		case *store.Fault:
			name := f.Name
			if name == "" {
				name = "-"
			}
			out, err = out+fmt.Sprintf(" store %s %s %d", f.Op, name, f.At), f.Err
		case api.Errno:
			return fmt.Sprintf("error %d", int(f)) + out
		default:
			return fmt.Sprintf("an error of type %T", err)
		}
	}
	return "an error without a number"
}

func (w *twin) play(m move) string {
	switch marks[m.cmd] {
	case "D":
		w.s, w.e = nil, nil
	case "S", "T":
		if w.s == nil && w.e == nil {
			return "error 182"
		}
		if marks[m.cmd] == "T" && w.e != nil {
			return "error 184"
		}
	case "E":
		if w.e == nil {
			return "error 183"
		}
		return w.carry(m)
	}
	if marks[m.cmd] == "S" || marks[m.cmd] == "T" {
		s := w.s
		if w.e != nil {
			s = w.e.Store()
		}
		if marks[m.cmd] == "T" {
			return w.change(s, m)
		}
		return w.ask(s, m)
	}
	if marks[m.cmd] == "D" {
		return w.open(m)
	}
	return w.loose(m)
}

func (w *twin) open(m move) string {
	o := api.Options{}
	if len(m.nums) == 2 {
		o = api.Options{V: m.nums[0], Limit: m.nums[1]}
	}
	var err error
	switch m.cmd {
	case "open":
		w.s, err = store.Open(w.d, o)
	case "restore":
		w.s, err = archive.Restore(w.d, o, w.kept)
	case "run":
		w.e, err = engine.Open(w.d, o, m.lits...)
		if err == nil {
			return ok(len(w.e.State().Sagas))
		}
	case "blank":
		w.d, _ = disk.New(w.quota)
		return "ok"
	case "crash":
		left := w.d.Crash(m.nums[0], m.cuts...)
		w.d, _ = disk.Load(w.quota, left)
		return ok(len(left))
	}
	if err != nil {
		return bad(err)
	}
	return ok(w.s.Stat().Records)
}

func (w *twin) change(s *store.Store, m move) string {
	records := func(err error) string {
		if err != nil {
			return bad(err)
		}
		return ok(s.Stat().Records)
	}
	segments := func(err error) string {
		if err != nil {
			return bad(err)
		}
		return ok(s.Stat().Segs)
	}
	switch m.cmd {
	case "append":
		return records(s.Append(m.recs...))
	case "import":
		recs, e := export.ReadRecords([]byte(m.lits[0]))
		if e != api.OK {
			return bad(e)
		}
		return records(s.Append(recs...))
	case "rotate":
		return segments(s.Rotate())
	case "raise":
		return segments(s.Raise(m.nums[0]))
	case "upgrade":
		return report(rewrite.Upgrade(s))
	}
	return "no command"
}

func report(r api.Report, err error) string {
	if err != nil {
		return bad(err)
	}
	return ok(r.Before, r.After, r.Sagas, r.Segs0, r.Segs1, r.Bytes0, r.Bytes1)
}

func list(recs []api.Record, err error) string {
	if err != nil {
		return bad(err)
	}
	b, e := export.Records(recs...)
	if e != api.OK {
		return bad(e)
	}
	return ok(string(b))
}

func (w *twin) ask(s *store.Store, m move) string {
	switch m.cmd {
	case "close":
		w.s, w.e = nil, nil
		return "ok"
	case "sync":
		if err := s.Sync(); err != nil {
			return bad(err)
		}
		return "ok"
	case "compact":
		if w.e != nil {
			return report(w.e.Compact())
		}
		return report(rewrite.Compact(s))
	case "dead":
		n, sagas, err := rewrite.Dead(s)
		if err != nil {
			return bad(err)
		}
		return ok(n, sagas)
	case "records":
		return list(s.Records())
	case "lookup":
		return list(s.Lookup(m.nums[0]))
	case "replay":
		st, at, err := replay.Run(s, m.nums[0])
		if err != nil {
			return bad(err)
		}
		b, _ := export.State(st)
		return ok(at, string(b))
	case "saga":
		one, err := replay.One(s, m.nums[0])
		if err != nil {
			return bad(err)
		}
		recs, _ := s.Lookup(m.nums[0])
		b, _ := export.State(api.State{Count: len(recs), Sagas: []api.Saga{one}})
		return ok(string(b))
	case "stat":
		return "ok " + strings.Trim(fmt.Sprint(s.Stat()), "{}")
	case "segments":
		out := "ok"
		for _, seg := range s.Segments() {
			out += fmt.Sprintf(" %d:%d:%d", seg.Num, seg.Size, seg.Count)
		}
		return out
	case "backup":
		b, err := archive.Backup(s)
		if err != nil {
			return bad(err)
		}
		w.kept = b
		return ok(len(b))
	}
	return "no command"
}

func (w *twin) carry(m move) string {
	var err error
	switch m.cmd {
	case "start":
		var data []byte
		if len(m.lits) == 1 {
			data = []byte(m.lits[0])
		}
		err = w.e.Begin(m.nums[0], m.name, data)
	case "next":
		call, some, wrong := w.e.Next()
		way := map[bool]string{false: "do", true: "undo"}[call.Undo]
		if wrong == nil && some {
			return ok(call.Saga, call.Step, way, call.Try, call.Name, text.Quote(string(call.Data)))
		}
		if wrong == nil {
			return "ok none"
		}
		err = wrong
	case "reply":
		a := api.Answer{Outcome: 1 + slices.Index([]string{"done", "again", "refused", "lost"}, m.name)}
		if len(m.nums) == 2 {
			a.Code = m.nums[1]
		}
		if len(m.lits) == 1 {
			a.Data = []byte(m.lits[0])
		}
		err = w.e.Reply(m.nums[0], a)
	case "out":
		out := "ok"
		for _, id := range w.e.Out() {
			out += fmt.Sprintf(" %d", id)
		}
		return out
	}
	if err != nil {
		return bad(err)
	}
	return "ok"
}

func (w *twin) loose(m move) string {
	at := func(e api.Errno, place int) string { return fmt.Sprintf("error %d at %d", int(e), place) }
	switch m.cmd {
	case "files":
		out := "ok"
		for _, f := range w.d.Files() {
			out += fmt.Sprintf(" %s:%d", f.Name, len(f.Data))
		}
		return out
	case "free":
		return ok(w.d.Free())
	case "arm":
		w.d.Arm(m.nums[0])
		return "ok"
	case "json":
		b, e, place := cjson.Canon([]byte(m.lits[0]))
		if e != api.OK {
			return at(e, place)
		}
		return ok(string(b))
	case "state":
		st, e := export.ReadState([]byte(m.lits[0]))
		if e != api.OK {
			return bad(e)
		}
		b, _ := export.State(st)
		return ok(string(b))
	case "plan":
		p, e, place := plan.Parse(m.lits[0])
		if e != api.OK {
			return at(e, place)
		}
		line, _ := plan.Print(p)
		return ok(text.Quote(line))
	case "name":
		if e, place := text.Name(m.lits[0]); e != api.OK {
			return at(e, place)
		}
		return "ok"
	case "clip":
		return ok(text.Quote(text.Clip(m.lits[0], m.nums[0])))
	case "crc":
		return ok(wire.Sum([]byte(m.lits[0])))
	}
	to := lift.Up
	if m.cmd == "down" {
		to = lift.Down
	}
	r, e := to(m.recs[0], m.nums[0])
	if e != api.OK {
		return bad(e)
	}
	return list([]api.Record{r}, nil)
}

// write is a move as a line, with blanks, tabs and remarks here and there, and a record's fields in any order.
func write(r *rand.Rand, m move) string {
	var words []string
	put := func(list ...string) { words = append(words, list...) }
	put(m.cmd)
	switch m.cmd {
	case "append":
		for i, rec := range m.recs {
			if i > 0 {
				put(";")
			}
			put(recordWords(r, rec)...)
		}
	case "up", "down":
		put(itoa(m.nums[0]))
		put(recordWords(r, m.recs[0])...)
	case "reply":
		put(itoa(m.nums[0]), m.name)
		if len(m.nums) == 2 {
			put(itoa(m.nums[1]))
		}
	default:
		for _, n := range m.nums {
			put(itoa(n))
		}
		if m.name != "" {
			put(m.name)
		}
		for _, c := range m.cuts {
			put(itoa(c.Keep), ",", itoa(c.Zero))
		}
	}
	for _, l := range m.lits {
		put(text.Quote(l))
	}
	return join(r, words)
}

// recordWords is a record's words; a field that is zero may be written out or not.
func recordWords(r *rand.Rand, rec api.Record) []string {
	kinds := []string{"", "begin", "start", "done", "fail", "undo", "undone", "end"}
	var fields [][]string
	number := func(name string, n int) {
		if n != 0 || r.Intn(8) == 0 {
			fields = append(fields, []string{name, "=", itoa(n)})
		}
	}
	number("step", rec.Step)
	number("try", rec.Try)
	number("at", rec.At)
	number("last", rec.Last)
	number("code", rec.Code)
	number("count", rec.Count)
	number("pivot", rec.Pivot)
	if e, _ := text.Name(rec.Name); e == api.OK && r.Intn(2) == 0 {
		fields = append(fields, []string{"name", "=", rec.Name})
	} else if rec.Name != "" || r.Intn(8) == 0 {
		fields = append(fields, []string{"name", "=", text.Quote(rec.Name)})
	}
	if len(rec.Data) != 0 || r.Intn(8) == 0 {
		fields = append(fields, []string{"data", "=", text.Quote(string(rec.Data))})
	}
	r.Shuffle(len(fields), func(i, j int) { fields[i], fields[j] = fields[j], fields[i] })
	return append([]string{itoa(rec.V), kinds[rec.Kind], itoa(rec.Saga)}, slices.Concat(fields...)...)
}

// join is words as a line: beside a sign there need not be a blank.
func join(r *rand.Rand, words []string) string {
	out := pick(r, "", "", " ", "\t")
	for i, w := range words {
		isSign := w == "=" || w == ";" || w == ","
		wasSign := i > 0 && (words[i-1] == "=" || words[i-1] == ";" || words[i-1] == ",")
		switch {
		case i == 0:
		case (isSign || wasSign) && r.Intn(3) > 0:
		default:
			out += pick(r, " ", " ", "\t", "  ")
		}
		out += w
	}
	return out + pick(r, "", "", "", " ", "# so", " # \xff \"")
}

// drawRecord is a record that is mostly valid, of a few sagas.
func drawRecord(r *rand.Rand) api.Record {
	rec := api.Record{V: 1 + r.Intn(3), Kind: 1 + r.Intn(7), Saga: 1 + r.Intn(5), Step: r.Intn(2)}
	if rec.Kind == api.KBegin || rec.Kind == api.KEnd {
		rec.Step = 0
	}
	if rec.Kind == api.KBegin && rec.V == 1 {
		rec.Step, rec.Data = 2, []byte("pay")
		return rec
	}
	if rec.Kind == api.KBegin {
		rec.Name, rec.Count = "pay", 2
	}
	if rec.V > 1 && (rec.Kind == api.KStart || rec.Kind == api.KUndo) {
		rec.Try = 1
	}
	if rec.V > 1 && r.Intn(3) == 0 {
		rec.At = r.Intn(100)
	}
	if rec.V > 1 && rec.Kind == api.KFail {
		rec.Last = r.Intn(2)
	}
	if rec.Kind == api.KDone || rec.Kind == api.KFail || rec.Kind == api.KUndone {
		rec.Data = []byte(pick(r, "", "x", "\xff", "a \"b\"", "é\n"))
	}
	switch r.Intn(25) {
	case 0:
		rec.Saga = -r.Intn(2)
	case 1:
		rec.Code = -7
	case 2:
		rec.V = pick(r, 0, 4)
	case 3:
		rec.Name = pick(r, "pay", "", "2b", "buy")
	case 4:
		rec.Pivot = r.Intn(4)
	}
	return rec
}

func drawPlans(r *rand.Rand) []string {
	return pick(r, []string{"pay: hold~free, ship~back"}, []string{"buy: get!", "pay: hold*2~free, ship~back"}, []string{"pay: hold~free, ship~back", "buy: get~put, send*3!, note"}, []string{"buy: get!"}, nil, []string{"pay: hold~free, ship"}, []string{"buy: get!", "buy: get!"})
}

func drawOptions(r *rand.Rand) []int {
	return []int{pick(r, 1, 2, 3, 3, 3, 3, 3, 0), pick(r, 64, 64, 64, 200, 65536, 63)}
}

func drawText(r *rand.Rand) string {
	return pick(r, "", "a", "é\xff", "a: b!", "pay: hold*2~free", "a: b", "[1, 2.0]", `{"a":[],"a":1}`, "1e2", `{"count":0,"sagas":[]}`, `{"count":0,"sagas":[1]}`, "[]", "\x00\n", oneSaga("x"), strings.Repeat("ä", 49))
}

// draw is a move of a command.
func draw(r *rand.Rand, cmd string) move {
	m := move{cmd: cmd}
	switch cmd {
	case "open", "restore":
		m.nums = drawOptions(r)
	case "run":
		m.nums, m.lits = drawOptions(r), drawPlans(r)
	case "append":
		for range pick(r, 0, 1, 1, 1, 2, 3, 17) {
			m.recs = append(m.recs, drawRecord(r))
		}
	case "import":
		var recs []api.Record
		for range r.Intn(3) {
			recs = append(recs, drawRecord(r))
		}
		b, e := export.Records(recs...)
		m.lits = []string{string(b)}
		if e != api.OK {
			m.lits[0] = drawText(r)
		}
	case "raise":
		m.nums = []int{pick(r, 1, 2, 3, 3, 0, 4)}
	case "lookup", "saga":
		m.nums = []int{r.Intn(8)}
	case "replay":
		m.nums = []int{pick(r, 1, 2, 16, 0, 17)}
	case "arm":
		m.nums = []int{pick(r, -1, 0, 1, 2, 3, 5, 8, 13, 30)}
	case "crash":
		m.nums = []int{r.Intn(9) - 1}
		for range r.Intn(5) {
			m.cuts = append(m.cuts, api.Cut{Keep: r.Intn(80) - 5, Zero: r.Intn(40) - 5})
		}
	case "start":
		m.nums, m.name = []int{r.Intn(12)}, pick(r, "pay", "pay", "buy", "other")
		if r.Intn(2) == 0 {
			m.lits = []string{drawText(r)}
		}
	case "reply":
		m.nums, m.name = []int{r.Intn(10)}, pick(r, "done", "done", "again", "refused", "lost")
		if r.Intn(2) == 0 {
			m.nums = append(m.nums, r.Intn(9)-4)
			if r.Intn(2) == 0 {
				m.lits = []string{drawText(r)}
			}
		}
	case "json", "state", "plan", "name", "crc":
		m.lits = []string{drawText(r)}
	case "clip":
		m.nums, m.lits = []int{r.Intn(5) - 1}, []string{drawText(r)}
	case "up", "down":
		m.nums, m.recs = []int{r.Intn(5)}, []api.Record{drawRecord(r)}
	}
	return m
}

// next is the move that comes next: what is open has a say, so that stores grow and engines go on.
func next(r *rand.Rand, w *twin) move {
	switch {
	case r.Intn(4) == 0:
		return draw(r, pick(r, names()...))
	case w.d.Down() && r.Intn(3) == 0:
		return draw(r, "crash")
	case w.e != nil:
		m := draw(r, pick(r, "start", "next", "next", "reply", "reply", "reply", "sync", "saga", "compact", "replay", "records", "backup", "arm"))
		if out := w.e.Out(); m.cmd == "reply" && len(out) > 0 && r.Intn(8) > 0 {
			m.nums[0] = pick(r, out...)
		}
		return m
	case w.s != nil:
		return draw(r, pick(r, "append", "append", "append", "append", "import", "rotate", "raise", "sync", "upgrade", "compact", "lookup", "saga", "replay", "records", "backup", "arm", "run"))
	}
	return draw(r, pick(r, "open", "run", "run", "restore", "blank", "crash"))
}

// Promises 18.4 to 18.8: every line answers what a second reading tells of it, and leaves the same files.
func TestTwin(t *testing.T) {
	told := map[string]int{}
	for seed := range 400 {
		r := rand.New(rand.NewSource(int64(seed)))
		quota := pick(r, 0, 20, 100, 300, 700, 4096, 65536)
		c := newConsole(t, quota)
		w := &twin{quota: quota}
		w.d, _ = disk.New(quota)
		var lines []string
		for range 120 {
			m := next(r, w)
			line := write(r, m)
			lines = append(lines, line)
			want := w.play(m)
			if got := c.Do(line); got != want {
				t.Fatalf("seed %d, quota %d:\n%s\nanswers %q, want %q", seed, quota, strings.Join(lines, "\n"), got, want)
			}
			if got, want := tell(c.Files()), tell(w.d.Files()); got != want {
				t.Fatalf("seed %d, quota %d:\n%s\nleaves %s, want %s", seed, quota, strings.Join(lines, "\n"), got, want)
			}
			told[m.cmd+" "+outcome(want)]++
		}
	}
	for _, name := range names() {
		if told[name+" ok"] < 20 {
			t.Errorf("%s was done %d times", name, told[name+" ok"])
		}
	}
	for _, chain := range []string{"engine", "engine store", "engine rewrite store", "rewrite store", "archive", "archive store", "store", "at", ""} {
		count := 0
		for key, n := range told {
			if strings.HasSuffix(key, " error"+strings.TrimRight(" "+chain, " ")) {
				count += n
			}
		}
		if count < 5 {
			t.Errorf("the chain %q was told %d times", chain, count)
		}
	}
}

// outcome is an answer without its numbers: ok, or error and the layers.
func outcome(answer string) string {
	if answer == "ok" || strings.HasPrefix(answer, "ok ") {
		return "ok"
	}
	out := "error"
	for _, w := range strings.Fields(answer) {
		if w == "engine" || w == "rewrite" || w == "archive" || w == "store" || w == "at" {
			out += " " + w
		}
	}
	return out
}
