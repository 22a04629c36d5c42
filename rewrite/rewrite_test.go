package rewrite_test

import (
	"errors"
	"slices"
	"testing"

	"annals/api"
	"annals/disk"
	"annals/manifest"
	"annals/rewrite"
	"annals/segment"
	"annals/store"
)

// The calls are as the chapter lists them.
var (
	_ func(...api.Record) ([]api.Record, []api.Record) = rewrite.Split
	_ func(*store.Store) (api.Report, error)           = rewrite.Compact
	_ func(*store.Store) (api.Report, error)           = rewrite.Upgrade
	_ func(*store.Store) (int, int, error)             = rewrite.Dead
	_ error                                            = (*rewrite.Fault)(nil)
	_ func(*rewrite.Fault) error                       = (*rewrite.Fault).Unwrap
	_                                                  = rewrite.Fault{Why: "", Err: error(nil)}
)

const maxNumber = 1099511627776 // 2^40

var usual = api.Options{V: 1, Limit: 64}

func begin(saga int) api.Record {
	return api.Record{V: 1, Kind: api.KBegin, Saga: saga, Step: 2, Data: []byte("p")}
}

func start(saga int) api.Record { return api.Record{V: 1, Kind: api.KStart, Saga: saga} }

func end(saga int) api.Record { return api.Record{V: 1, Kind: api.KEnd, Saga: saga} }

// example is the list of the chapter's examples.
func example() []api.Record {
	return []api.Record{begin(1), start(1), end(1), begin(2), end(3), start(2)}
}

// Promise 12.2: the chapter's examples; records that no store takes; an end ahead of all, behind all, in the midst, and twice.
func TestSplit(t *testing.T) {
	odd := []api.Record{{Saga: -5}, {Saga: 0, Kind: 7}, {}, {Saga: -5, Kind: 6, V: 99}, {Saga: 7, Kind: 8, Data: make([]byte, 20000)}, {Saga: 7, Kind: -7}}
	list := example()
	for i, row := range []struct{ recs, live, dead []api.Record }{
		{list, []api.Record{list[3], list[5]}, []api.Record{list[0], list[1], list[2], list[4]}},
		{nil, nil, nil},
		{list[:2], list[:2], nil},
		{list[2:3], nil, list[2:3]},
		{odd, []api.Record{odd[0], odd[3], odd[4], odd[5]}, odd[1:3]},
		{[]api.Record{end(4), begin(4), start(5), start(4)}, []api.Record{start(5)}, []api.Record{end(4), begin(4), start(4)}},
		{[]api.Record{start(5), end(4), end(4)}, []api.Record{start(5)}, []api.Record{end(4), end(4)}},
		{[]api.Record{begin(4), begin(4)}, []api.Record{begin(4), begin(4)}, nil},
		{[]api.Record{{V: 2, Kind: 7, Saga: 1}, {V: 3, Kind: 2, Saga: 1}, {V: 1, Kind: 2, Saga: 1}}, nil, []api.Record{{V: 2, Kind: 7, Saga: 1}, {V: 3, Kind: 2, Saga: 1}, {V: 1, Kind: 2, Saga: 1}}},
	} {
		if live, dead := rewrite.Split(row.recs...); !sameRecs(live, row.live) || !sameRecs(dead, row.dead) {
			t.Errorf("row %d: %+v; %+v", i, live, dead)
		}
	}
}

// Promises 12.3, 12.5, 12.6: the chapter's examples, in turn.
func TestExamples(t *testing.T) {
	d, s := fresh(t, 4096, usual, example()...)
	if n, k, err := rewrite.Dead(s); n != 4 || k != 2 || err != nil {
		t.Errorf("Dead: %d, %d, %v", n, k, err)
	}
	was := s.Stat()
	r, err := rewrite.Compact(s)
	now := s.Stat()
	if want := (api.Report{Before: 6, After: 2, Sagas: 2, Segs0: was.Segs, Segs1: 1, Bytes0: was.Bytes, Bytes1: now.Size}); err != nil || r != want {
		t.Errorf("Compact: %+v, %v, not %+v", r, err, want)
	}
	if l := listOf(t, s); !sameRecs(l, []api.Record{begin(2), start(2)}) || now.Top != 3 || now.Pending != 0 || now.V != 1 || now.Gen != was.Gen+1 {
		t.Errorf("behind it: %+v, %+v", l, now)
	}
	d.Arm(0)
	r, err = rewrite.Compact(s)
	if want := (api.Report{Before: 2, After: 2, Segs0: 1, Segs1: 1, Bytes0: now.Bytes, Bytes1: now.Bytes}); err != nil || r != want {
		t.Errorf("Compact again: %+v, %v, not %+v", r, err, want)
	}
	if n, k, err := rewrite.Dead(s); n != 0 || k != 0 || err != nil {
		t.Errorf("Dead: %d, %d, %v", n, k, err)
	}
	if d.Down() {
		t.Error("there was a changing call")
	}
	d.SyncDir() // with this call the disk goes down
	if _, err := rewrite.Upgrade(s); err == nil || err.Error() != "upgrade: records: error 60" {
		t.Errorf("Upgrade, the disk being down: %v", err)
	}
	if _, err := rewrite.Compact(nil); err == nil || err.Error() != "compact: error 1" {
		t.Errorf("Compact(nil): %v", err)
	}
}

// Promise 12.4: where something is old, the store or a record, all is made new; else nothing is done.
func TestUpgrade(t *testing.T) {
	list := lifted(t, 3, example())
	rows := []struct {
		name string
		make func(s *store.Store)
		does bool
	}{
		{"a store of version 1", func(s *store.Store) { s.Append(example()...) }, true},
		{"a store of version 1 without a record", func(s *store.Store) { s.Replace(1, 9) }, true},
		{"a store of version 2", func(s *store.Store) { s.Raise(2); s.Append(example()...) }, true},
		{"a store of version 3, one record of version 1", func(s *store.Store) { s.Append(begin(1)); s.Raise(3); s.Append(example()[1:]...) }, true},
		{"a store of version 3, all but the last of version 2", func(s *store.Store) {
			s.Raise(2)
			s.Append(example()[:5]...)
			s.Raise(3)
			s.Append(start(2))
		}, true},
		{"a store of version 3", func(s *store.Store) { s.Replace(3, 0); s.Append(example()...) }, false},
		{"a store of version 3, the segments of version 1 without a record", func(s *store.Store) { s.Raise(2); s.Raise(3); s.Append(example()...) }, false},
	}
	for _, row := range rows {
		d, s := fresh(t, 1<<16, usual)
		must(t, s.Replace(1, 44))
		row.make(s)
		was, want := s.Stat(), list[:s.Stat().Records]
		if !row.does {
			d.Arm(0)
		}
		r, err := rewrite.Upgrade(s)
		now := s.Stat()
		if err != nil || now.V != 3 || now.Top != 44 || !sameRecs(listOf(t, s), want) || (now == was) == row.does || row.does && now.Gen != was.Gen+1 {
			t.Errorf("%s: %v, %+v, %+v", row.name, err, now, listOf(t, s))
		}
		if r != (api.Report{Before: len(want), After: len(want), Segs0: was.Segs, Segs1: now.Segs, Bytes0: was.Bytes, Bytes1: now.Bytes}) {
			t.Errorf("%s: %+v", row.name, r)
		}
		d.Arm(0)
		if again, err := rewrite.Upgrade(s); err != nil || d.Down() || again.Segs0 != now.Segs || again.Segs1 != now.Segs || again.Bytes0 != again.Bytes1 {
			t.Errorf("%s, at once again: %+v, %v", row.name, again, err)
		}
	}
}

// Promises 12.3, 12.9: what is left is lifted only if something goes, and the store's Top never falls.
func TestCompactLifts(t *testing.T) {
	d, s := fresh(t, 4096, usual, begin(5))
	must(t, s.Raise(3))
	d.Arm(0)
	if r, err := rewrite.Compact(s); err != nil || d.Down() || r.Segs0 != 2 || r.Segs1 != 2 || !sameRecs(listOf(t, s), []api.Record{begin(5)}) {
		t.Errorf("nothing is dead: %+v, %v, %+v", r, err, listOf(t, s))
	}
	d.Arm(-1)
	for _, row := range []struct{ ends, top int }{{7, 7}, {6, 7}, {8, 8}, {1, 8}, {api.MaxID, api.MaxID}} {
		must(t, s.Append(end(row.ends)))
		if r, err := rewrite.Compact(s); err != nil || r.Sagas != 1 || s.Stat().Top != row.top || s.Stat().Segs != 1 || !sameRecs(listOf(t, s), lifted(t, 3, []api.Record{begin(5)})) {
			t.Errorf("%d ends: %+v, %v, %+v, %+v", row.ends, r, err, s.Stat(), listOf(t, s))
		}
	}
	must(t, s.Append(end(5)))
	if r, err := rewrite.Compact(s); err != nil || r.Before != 2 || r.After != 0 || r.Segs1 != 1 || r.Bytes1 != 5 {
		t.Errorf("all are dead: %+v, %v", r, err)
	}
}

// Promise 12.1: a fault's words and its cause.
func TestFaults(t *testing.T) {
	for want, f := range map[string]*rewrite.Fault{
		"compact: replace: error 64": {Why: "compact", Err: &store.Fault{Op: "replace", At: -1, Err: api.ErrFull}},
		"upgrade: error 1":           {Why: "upgrade", Err: api.ErrArg},
		"x: nothing":                 {Why: "x"},
		": nothing":                  {},
		"dead: compact: replace MANIFEST: error 80": {Why: "dead", Err: &rewrite.Fault{Why: "compact", Err: &store.Fault{Op: "replace", Name: "MANIFEST", At: -1, Err: api.ErrGen}}},
	} {
		if f.Error() != want || f.Unwrap() != f.Err {
			t.Errorf("%q, not %q; %v", f.Error(), want, f.Unwrap())
		}
	}
}

// refuses holds that all three calls are refused, each with its own name and with nothing beside the error.
func refuses(t *testing.T, s *store.Store, why string, is func(error) bool) {
	t.Helper()
	for _, c := range calls {
		r, err := c.do(s)
		if r != (api.Report{}) || err == nil || fault(t, err).Why != c.why || err.Error() != c.why+": "+why || !is(err) {
			t.Errorf("%s: %+v, %v", c.why, r, err)
		}
	}
	n, k, err := rewrite.Dead(s)
	if n != 0 || k != 0 || err == nil || fault(t, err).Why != "dead" || err.Error() != "dead: "+why || !is(err) {
		t.Errorf("dead: %d, %d, %v", n, k, err)
	}
}

// Promise 12.1: no store; a disk that is down; a store whose files somebody else took away.
func TestRefused(t *testing.T) {
	refuses(t, nil, "error 1", func(err error) bool {
		var g *store.Fault
		return errors.Is(err, api.ErrArg) && !errors.As(err, &g)
	})
	theirs := func(e api.Errno) func(error) bool {
		return func(err error) bool {
			var g *store.Fault
			return errors.Is(err, e) && errors.As(err, &g) && g.Op == "records" && g.Name == "" && g.At == -1
		}
	}
	for _, recs := range [][]api.Record{nil, example()} {
		d, s := fresh(t, 4096, usual, recs...)
		was := s.Stat()
		d.Arm(0)
		d.SyncDir()
		refuses(t, s, "records: error 60", theirs(api.ErrDown))
		if s.Stat() != was {
			t.Errorf("%+v, not %+v", s.Stat(), was)
		}
	}
	d, s := fresh(t, 4096, usual, example()...)
	d.Truncate("s1", 7)
	refuses(t, s, "records: error 94", theirs(api.ErrCorrupt))
	d.Remove("s1")
	refuses(t, s, "records: error 95", theirs(api.ErrLost))
}

// spent is a store whose counters are near their ends, with the list of the examples.
func spent(t *testing.T, gen, next int) (*disk.Disk, *store.Store) {
	t.Helper()
	m, e1 := manifest.Encode(api.Manifest{Gen: gen, V: 1, Next: next, Top: 2, Segs: []api.Seg{{Num: 7}}})
	head, e2 := segment.Start(1)
	frames, e3 := segment.Pack(1, example()...)
	d, e4 := disk.Load(4096, []api.File{{Name: "MANIFEST", Data: m}, {Name: "s7", Data: slices.Concat(head, frames)}})
	if e := max(e1, e2, e3, e4); e != api.OK {
		t.Fatal(e)
	}
	return d, opened(t, d, usual)
}

// Promises 12.1, 12.7: counters that are spent refuse both, and leave all as it was; what does nothing needs no number.
func TestCountersEnd(t *testing.T) {
	for _, c := range calls {
		for _, row := range []struct {
			gen, next int
			want      string
			is        api.Errno
		}{
			{maxNumber, 9, "replace MANIFEST: error 80", api.ErrGen},
			{9, maxNumber, "replace MANIFEST: error 81", api.ErrNext},
			{maxNumber, maxNumber, "replace MANIFEST: error 80", api.ErrGen},
		} {
			d, s := spent(t, row.gen, row.next)
			was := view(t, d, s)
			r, err := c.do(s)
			if f := fault(t, err); f.Why != c.why || err.Error() != c.why+": "+row.want || !errors.Is(err, row.is) || r != (api.Report{}) {
				t.Errorf("%s with %+v: %+v, %v", c.why, row, r, err)
			}
			if view(t, d, s) != was {
				t.Errorf("%s with %+v changed the store", c.why, row)
			}
			if n, k, err := rewrite.Dead(s); n != 4 || k != 2 || err != nil {
				t.Errorf("Dead: %d, %d, %v", n, k, err)
			}
		}
		_, s := spent(t, maxNumber-1, maxNumber-2)
		for range 2 { // the first takes the last generation; the second does nothing
			if _, err := c.do(s); err != nil || s.Stat().Gen != maxNumber {
				t.Errorf("%s to the last generation: %v, %+v", c.why, err, s.Stat())
			}
		}
	}
}

// Promise 12.7: without room for the new segments beside the old ones both are refused, to the byte, and leave all as it was.
func TestRoom(t *testing.T) {
	for _, c := range calls {
		done := 0
		for quota := 100; quota < 400; quota++ {
			d, e := disk.New(quota)
			s, err := store.Open(d, api.Options{V: 1, Limit: 65536})
			if e != api.OK || err != nil {
				t.Fatal(e, err)
			}
			if s.Append(example()...) != nil {
				continue
			}
			was := view(t, d, s)
			// The new ones are read off a store that has the room.
			_, wide := fresh(t, 4096, api.Options{V: 1, Limit: 65536}, example()...)
			_, err = c.do(wide)
			must(t, err)
			m, _ := manifest.Encode(api.Manifest{Gen: wide.Stat().Gen, V: wide.Stat().V, Next: wide.Stat().Next, Top: wide.Stat().Top, Segs: wide.Segments()})
			fits := d.Free() >= wide.Stat().Bytes+len(m)
			r, err := c.do(s)
			if fits != (err == nil) || !fits && (err.Error() != c.why+": replace: error 64" || !errors.Is(err, api.ErrFull) || r != (api.Report{}) || view(t, d, s) != was) {
				t.Fatalf("%s with %d bytes: %+v, %v", c.why, quota, r, err)
			}
			if fits {
				done++
			}
		}
		if done == 0 || done == 300 {
			t.Errorf("%s was done %d times", c.why, done)
		}
	}
}
