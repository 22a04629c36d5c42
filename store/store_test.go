package store_test

import (
	"errors"
	"fmt"
	"math/rand"
	"slices"
	"strconv"
	"strings"
	"testing"

	"annals/api"
	"annals/disk"
	"annals/record"
	"annals/store"
)

// The calls are as the chapter lists them.
var (
	_ func(*disk.Disk, api.Options) (*store.Store, error) = store.Open
	_ func(*store.Store, ...api.Record) error             = (*store.Store).Append
	_ func(*store.Store) error                            = (*store.Store).Sync
	_ func(*store.Store) error                            = (*store.Store).Rotate
	_ func(*store.Store, int) error                       = (*store.Store).Raise
	_ func(*store.Store) ([]api.Record, error)            = (*store.Store).Records
	_ func(*store.Store, int) ([]api.Record, error)       = (*store.Store).Lookup
	_ func(*store.Store) ([][]byte, error)                = (*store.Store).Blobs
	_ func(*store.Store) api.Stat                         = (*store.Store).Stat
	_ func(*store.Store) []api.Seg                        = (*store.Store).Segments
	_ func(*store.Store, int, int, ...api.Record) error   = (*store.Store).Replace
	_ error                                               = (*store.Fault)(nil)
	_ func(*store.Fault) error                            = (*store.Fault).Unwrap
	_                                                     = store.Fault{Op: "", Name: "", At: 0, Err: error(nil)}
)

func pick[T any](r *rand.Rand, list ...T) T { return list[r.Intn(len(list))] }

// end is an end of a saga: of one below 128 its frame has 11 bytes.
func end(v, saga int) api.Record { return api.Record{V: v, Kind: api.KEnd, Saga: saga} }

func ends(v int, sagas ...int) []api.Record {
	var out []api.Record
	for _, saga := range sagas {
		out = append(out, end(v, saga))
	}
	return out
}

// drawRec is a valid record of a version from 1 to v.
func drawRec(r *rand.Rand, v int) api.Record {
	x := api.Record{V: 1 + r.Intn(v), Kind: 1 + r.Intn(7), Saga: 1 + r.Intn(5)}
	fields := record.Fields(x.V, x.Kind)
	has := func(tag int) bool { return slices.Contains(fields, tag) }
	if has(3) {
		x.Step = 1 + r.Intn(3)
	}
	if has(4) {
		x.Try = 1 + r.Intn(3)
	}
	if has(5) {
		x.At = r.Intn(3)
	}
	if has(6) {
		x.Last = r.Intn(2)
	}
	if has(7) {
		x.Code = r.Intn(3)
	}
	if has(8) {
		x.Count = 1 + r.Intn(4)
	}
	if has(9) {
		x.Pivot = r.Intn(x.Count + 1)
	}
	if has(10) {
		x.Name = pick(r, "pay", "a", "bücher")
	}
	if has(11) {
		x.Data = []byte(pick(r, "pay", "x", strings.Repeat("d", r.Intn(40)+1)))
	}
	return x
}

func drawRecs(r *rand.Rand, v, n int) []api.Record {
	var out []api.Record
	for range n {
		out = append(out, drawRec(r, v))
	}
	return out
}

// spoiled is records some of which are not valid, or of a version that may be too high.
func spoiled(r *rand.Rand, recs []api.Record) []api.Record {
	for range 1 + r.Intn(2) {
		x := &recs[r.Intn(len(recs))]
		switch r.Intn(6) {
		case 0:
			x.V = pick(r, 0, 4, -1)
		case 1:
			x.Kind = pick(r, 0, 8)
		case 2:
			x.Saga = pick(r, 0, -1)
		case 3:
			x.Step = 99
		case 4:
			*x = end(pick(r, 2, 3), 1)
		case 5:
			x.Name = "1"
		}
	}
	return recs
}

func sameRecs(a, b []api.Record) bool { return slices.EqualFunc(a, b, record.Same) }

func loaded(t *testing.T, quota int, files ...api.File) *disk.Disk {
	t.Helper()
	d, e := disk.Load(quota, files)
	if e != api.OK {
		t.Fatalf("disk.Load(%d, %s): %d", quota, tell(files), e)
	}
	return d
}

func opened(t *testing.T, d *disk.Disk, o api.Options) *store.Store {
	t.Helper()
	s, err := store.Open(d, o)
	if err != nil || s == nil {
		t.Fatalf("Open with %+v over %s: %v, %v", o, tell(d.Files()), s, err)
	}
	return s
}

func fresh(t *testing.T, quota int, o api.Options) (*disk.Disk, *store.Store) {
	t.Helper()
	d := loaded(t, quota)
	return d, opened(t, d, o)
}

func file(name string, data []byte) api.File { return api.File{Name: name, Data: data} }

// tell is files as a text.
func tell(files []api.File) string {
	var out []string
	for _, f := range files {
		out = append(out, fmt.Sprintf("%s=%q", f.Name, f.Data))
	}
	return strings.Join(out, " ")
}

// sight is all that can be seen of a disk from without, the crashes that it may leave too.
func sight(d *disk.Disk) string {
	out := fmt.Sprint(d.Down(), d.Free(), d.List()) + raw(d.Files())
	all := raw(d.Crash(1 << 30))
	for keep := 0; ; keep++ {
		left := raw(d.Crash(keep))
		out += left + raw(d.Crash(keep, slices.Repeat([]api.Cut{{Keep: 3, Zero: 2}}, 40)...))
		// Behind the last name change no further one is left.
		if left == all && left == raw(d.Crash(keep+1)) {
			return out
		}
	}
}

// raw is files as a text that is made fast.
func raw(files []api.File) string {
	var out strings.Builder
	for _, f := range files {
		out.WriteString("\n" + f.Name + " " + strconv.Itoa(len(f.Data)) + " ")
		out.Write(f.Data)
	}
	return out.String()
}

// fields is an error as a text, all fields apart, once it was held against all that is promised of each error; the empty text is none.
func fields(t *testing.T, err error) string {
	t.Helper()
	if err == nil {
		return ""
	}
	f, is := err.(*store.Fault)
	if !is || f == nil {
		t.Fatalf("%v is no fault", err)
	}
	e, is := f.Err.(api.Errno)
	if !is || e == api.OK || !errors.Is(err, e) || errors.Unwrap(err) != error(e) {
		t.Fatalf("%v holds no reason: %v", err, f.Err)
	}
	return refusal(f.Op, f.Name, f.At, e)
}

func text(err error) string {
	if err == nil {
		return "nil"
	}
	return err.Error()
}

func numbers(s *store.Store) string {
	n := s.Stat()
	return fmt.Sprint(n.Gen, n.V, n.Next, n.Top, n.Segs, n.Records, n.Pending, n.Size, n.Bytes)
}

// Promises 9.1 to 9.11: the chapter's examples, one behind the other.
func TestExamples(t *testing.T) {
	d, s := fresh(t, 4096, api.Options{V: 1, Limit: 64})
	e := end(1, 1)
	lookup := func(saga int) func() error {
		return func() error {
			l, err := s.Lookup(saga)
			if len(l) != 0 {
				t.Errorf("Lookup(%d) = %v", saga, l)
			}
			return err
		}
	}
	rows := []struct {
		name string
		call func() error
		want string
		stat string
	}{
		{"Open", func() error { return nil }, "nil", "1 1 2 0 1 0 0 5 5"},
		{"Append(E, E, E)", func() error { return s.Append(e, e, e) }, "nil", "1 1 2 0 1 3 3 38 38"},
		{"Append(V 2)", func() error { return s.Append(end(2, 1)) }, "append #0: error 90", "1 1 2 0 1 3 3 38 38"},
		{"Append(E, no saga)", func() error { return s.Append(e, end(1, 0)) }, "append #1: error 32", "1 1 2 0 1 3 3 38 38"},
		{"Append(E, E)", func() error { return s.Append(e, e) }, "nil", "1 1 2 0 1 5 5 60 60"},
		{"Append(E)", func() error { return s.Append(e) }, "nil", "2 1 3 0 2 6 1 16 100"},
		{"Sync", func() error { return s.Sync() }, "nil", "2 1 3 0 2 6 0 16 100"},
		{"Rotate", func() error { return s.Rotate() }, "nil", "3 1 4 0 3 6 0 5 125"},
		{"Rotate again", func() error { return s.Rotate() }, "nil", "3 1 4 0 3 6 0 5 125"},
		{"Raise(0)", func() error { return s.Raise(0) }, "raise: error 3", "3 1 4 0 3 6 0 5 125"},
		{"Raise(1)", func() error { return s.Raise(1) }, "nil", "3 1 4 0 3 6 0 5 125"},
		{"Raise(3)", func() error { return s.Raise(3) }, "nil", "4 3 5 0 4 6 0 5 147"},
		{"Raise(2)", func() error { return s.Raise(2) }, "raise: error 91", "4 3 5 0 4 6 0 5 147"},
		{"Append(E) to version 3", func() error { return s.Append(e) }, "nil", "4 3 5 0 4 7 1 16 158"},
		{"Lookup(0)", lookup(0), "lookup: error 1", "4 3 5 0 4 7 1 16 158"},
		{"Lookup(2)", lookup(2), "nil", "4 3 5 0 4 7 1 16 158"},
	}
	for _, c := range rows {
		if got := text(c.call()); got != c.want || numbers(s) != c.stat {
			t.Errorf("%s: %s, Stat %s; want %s, %s", c.name, got, numbers(s), c.want, c.stat)
		}
	}
	l, err := s.Records()
	if want := append(ends(1, 1, 1, 1, 1, 1, 1), end(3, 1)); err != nil || !sameRecs(l, want) {
		t.Fatalf("Records: %v, %v", l, err)
	}
	if err := s.Replace(3, 9, l[6]); err != nil || numbers(s) != "5 3 6 9 1 1 0 16 16" {
		t.Errorf("Replace: %v, %s", err, numbers(s))
	}
	s = opened(t, d, api.Options{V: 1, Limit: 64})
	if l, err := s.Records(); err != nil || !sameRecs(l, ends(3, 1)) || numbers(s) != "5 3 6 9 1 1 0 16 16" {
		t.Errorf("opened again: %v, %v, %s", l, err, numbers(s))
	}
	if s, err := store.Open(d, api.Options{V: 1, Limit: 63}); s != nil || text(err) != "open: error 93" {
		t.Errorf("limit 63: %v, %v", s, err)
	}
	if s, err := store.Open(nil, api.Options{}); s != nil || text(err) != "open: error 1" {
		t.Errorf("no disk: %v, %v", s, err)
	}
}

// Promise 9.1: the words of a fault, and what it unwraps to.
func TestFaultWords(t *testing.T) {
	other := errors.New("other")
	rows := []struct {
		f    store.Fault
		want string
	}{
		{store.Fault{Op: "append", At: 3, Err: api.ErrBound}, "append #3: error 34"},
		{store.Fault{Op: "open", Name: "s2", At: -1, Err: api.ErrCorrupt}, "open s2: error 94"},
		{store.Fault{Op: "sync", At: -1, Err: api.ErrDown}, "sync: error 60"},
		{store.Fault{Op: "replace", At: 0, Err: api.ErrNewer}, "replace #0: error 90"},
		{store.Fault{Op: "raise", Name: "MANIFEST", At: 1000000, Err: other}, "raise MANIFEST #1000000: other"},
		{store.Fault{Op: "x", Name: "y", At: -7}, "x y: nothing"},
		{store.Fault{}, " #0: nothing"},
		{store.Fault{At: -1, Err: &store.Fault{Op: "open", At: -1, Err: api.ErrArg}}, ": open: error 1"},
	}
	for _, c := range rows {
		if got := c.f.Error(); got != c.want {
			t.Errorf("%+v is %q, want %q", c.f, got, c.want)
		}
		if c.f.Unwrap() != c.f.Err {
			t.Errorf("%+v unwraps to %v", c.f, c.f.Unwrap())
		}
	}
	wrapped := &store.Fault{Op: "a", Err: &store.Fault{Op: "b", Err: api.ErrFull}}
	var f *store.Fault
	if !errors.Is(wrapped, api.ErrFull) || errors.Is(wrapped, api.ErrDown) || !errors.As(wrapped, &f) || f.Op != "a" {
		t.Error("the reason is not found through the chain")
	}
}

// Promises 9.1, 9.3, 9.6, 9.7, 9.9: what is wrong first, in each call, and that a refused call changes nothing.
func TestWhichErrorFirst(t *testing.T) {
	bad := api.Record{V: 9, Kind: 9}
	many := slices.Repeat([]api.Record{bad}, 17)
	rows := []struct {
		name string
		call func(s *store.Store) error
		want string
	}{
		{"17 records, none valid", func(s *store.Store) error { return s.Append(many...) }, "append: error 92"},
		{"17 records", func(s *store.Store) error { return s.Append(ends(1, make([]int, 17)...)...) }, "append: error 92"},
		{"16 records, none valid", func(s *store.Store) error { return s.Append(many[:16]...) }, "append #0: error 3"},
		{"an invalid one behind a newer one", func(s *store.Store) error { return s.Append(end(1, 1), end(3, 1), bad) }, "append #1: error 90"},
		{"a newer one behind an invalid one", func(s *store.Store) error { return s.Append(end(1, 1), bad, end(3, 1)) }, "append #1: error 3"},
		{"a newer one that is invalid", func(s *store.Store) error { return s.Append(end(3, 0)) }, "append #0: error 32"},
		{"the last of 16", func(s *store.Store) error { return s.Append(append(slices.Repeat(ends(2, 1), 15), end(2, -1))...) }, "append #15: error 32"},
		{"too great data", func(s *store.Store) error {
			return s.Append(api.Record{V: 2, Kind: api.KDone, Saga: 1, Data: make([]byte, 16385)})
		}, "append #0: error 36"},
		{"Raise(-1)", func(s *store.Store) error { return s.Raise(-1) }, "raise: error 3"},
		{"Raise(4)", func(s *store.Store) error { return s.Raise(4) }, "raise: error 3"},
		{"Raise(1)", func(s *store.Store) error { return s.Raise(1) }, "raise: error 91"},
		{"Replace(0, -1, bad)", func(s *store.Store) error { return s.Replace(0, -1, bad) }, "replace: error 3"},
		{"Replace(4, -1, bad)", func(s *store.Store) error { return s.Replace(4, -1, bad) }, "replace: error 3"},
		{"Replace(1, -1, bad)", func(s *store.Store) error { return s.Replace(1, -1, bad) }, "replace: error 91"},
		{"Replace(2, -1, bad)", func(s *store.Store) error { return s.Replace(2, -1, bad) }, "replace: error 1"},
		{"Replace(2, 0, bad)", func(s *store.Store) error { return s.Replace(2, 0, bad) }, "replace #0: error 3"},
		{"Replace(2, 0, of 3, bad)", func(s *store.Store) error { return s.Replace(2, 0, end(3, 1), bad) }, "replace #0: error 90"},
		{"Replace(3, 0, .., bad)", func(s *store.Store) error { return s.Replace(3, 0, end(3, 1), end(1, 1), bad) }, "replace #2: error 3"},
		{"the last of 40", func(s *store.Store) error {
			return s.Replace(2, 0, append(slices.Repeat(ends(2, 1), 39), end(3, 1))...)
		}, "replace #39: error 90"},
		{"Lookup(0)", func(s *store.Store) error { _, err := s.Lookup(0); return err }, "lookup: error 1"},
		{"Lookup(-1)", func(s *store.Store) error { _, err := s.Lookup(-1); return err }, "lookup: error 1"},
	}
	for _, room := range []int{47, 4096} {
		d, s := fresh(t, room, api.Options{V: 2, Limit: 64})
		if err := s.Append(end(1, 1), end(2, 2)); err != nil {
			t.Fatal(err)
		}
		was, stat, segs := sight(d), numbers(s), fmt.Sprint(s.Segments())
		for _, c := range rows {
			err := c.call(s)
			fields(t, err)
			if text(err) != c.want {
				t.Errorf("%s: %v, want %s", c.name, err, c.want)
			}
			if sight(d) != was || numbers(s) != stat || fmt.Sprint(s.Segments()) != segs {
				t.Errorf("%s: a refused call changed something", c.name)
			}
		}
		l, err := s.Records()
		if err != nil || !sameRecs(l, ends(2, 1, 2)) {
			t.Errorf("%v, %v", l, err)
		}
	}
}

// Promises 9.1, 9.2: a disk that is down comes ahead of all but a nil one, in each call; Stat and Segments answer on.
func TestDown(t *testing.T) {
	d, s := fresh(t, 4096, api.Options{V: 2, Limit: 64})
	s.Append(ends(2, 1, 2)...)
	stat, segs := numbers(s), fmt.Sprint(s.Segments())
	d.Arm(0)
	if err := s.Rotate(); text(err) != "rotate: error 60" {
		t.Fatalf("Rotate in which the disk goes down: %v", err)
	}
	was := sight(d)
	second := func(_ any, err error) error { return err }
	open := func(d *disk.Disk, o api.Options) error { _, err := store.Open(d, o); return err }
	l, err := s.Lookup(1)
	rows := []struct {
		err error
		op  string
	}{
		{s.Append(), "append"}, {s.Append(make([]api.Record, 17)...), "append"}, {s.Append(end(9, 9)), "append"}, {s.Append(end(1, 1)), "append"},
		{s.Sync(), "sync"}, {s.Rotate(), "rotate"}, {s.Raise(0), "raise"}, {s.Raise(1), "raise"}, {s.Raise(2), "raise"}, {s.Raise(3), "raise"},
		{s.Replace(0, -1, end(9, 9)), "replace"}, {s.Replace(1, 0), "replace"}, {s.Replace(2, -1), "replace"}, {s.Replace(3, 0, end(1, 1)), "replace"},
		{second(s.Records()), "records"}, {err, "lookup"}, {second(s.Lookup(0)), "lookup"}, {second(s.Blobs()), "blobs"},
		{open(d, api.Options{}), "open"}, {open(d, api.Options{V: 2, Limit: 64}), "open"},
	}
	for i, c := range rows {
		if got := fields(t, c.err); got != refusal(c.op, "", -1, api.ErrDown) {
			t.Errorf("row %d: %s", i, got)
		}
	}
	if len(l) != 0 || sight(d) != was || numbers(s) != stat || fmt.Sprint(s.Segments()) != segs {
		t.Errorf("behind it all: %v, %s, %v", l, numbers(s), s.Segments())
	}
}

// Promise 9.4, 9.15: what is pending is counted, and Sync makes it last; it makes no changing call if there is nothing.
func TestPending(t *testing.T) {
	d, s := fresh(t, 4096, api.Options{V: 1, Limit: 64})
	steps := []struct {
		call func() error
		want int
	}{
		{func() error { return s.Append(ends(1, 1, 1)...) }, 2},
		{func() error { return s.Append(ends(1, 1, 1)...) }, 4},
		{func() error { return s.Sync() }, 0},
		{func() error { return s.Append(end(1, 2)) }, 1},
		{func() error { return s.Append(ends(1, 3, 4)...) }, 2}, // a new segment: just its own are
		{func() error { return s.Rotate() }, 0},
		{func() error { return s.Append(ends(1, 3, 4)...) }, 2},
		{func() error { return s.Raise(1) }, 2},
		{func() error { return s.Raise(2) }, 0},
		{func() error { return s.Append(ends(1, 3, 4, 5)...) }, 3},
		{func() error { return s.Append() }, 3},
		{func() error { return s.Replace(2, 0, ends(1, 1, 2, 3, 4, 5, 6, 7)...) }, 0},
	}
	for i, c := range steps {
		if err := c.call(); err != nil || s.Stat().Pending != c.want {
			t.Fatalf("step %d: %v, %d are pending, want %d", i, err, s.Stat().Pending, c.want)
		}
		// What is pending is what a crash may take, and no more.
		u := opened(t, loaded(t, 4096, d.Crash(0)...), api.Options{V: 1, Limit: 64})
		if got := s.Stat().Records - u.Stat().Records; got != c.want {
			t.Errorf("step %d: a crash takes %d records, %d are pending", i, got, c.want)
		}
	}
	d.Arm(0)
	if err := s.Sync(); err != nil || d.Down() {
		t.Errorf("Sync where nothing is pending: %v", err)
	}
}
