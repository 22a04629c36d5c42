package replay_test

import (
	"errors"
	"math"
	"math/rand"
	"runtime"
	"testing"
	"time"

	"annals/api"
	"annals/disk"
	"annals/record"
	"annals/replay"
	"annals/store"
)

// opened is a store on a new disk.
func opened(t *testing.T, o api.Options) (*disk.Disk, *store.Store) {
	t.Helper()
	d, e := disk.New(1 << 18)
	s, err := store.Open(d, o)
	if e != api.OK || err != nil {
		t.Fatal(e, err)
	}
	return d, s
}

func must(t *testing.T, err error) {
	t.Helper()
	if err != nil {
		t.Fatal(err)
	}
}

// laid is a store with these records, a segment each, and an active segment without one.
func laid(t *testing.T, recs ...api.Record) (*disk.Disk, *store.Store) {
	t.Helper()
	d, s := opened(t, api.Options{V: 3, Limit: 64})
	for _, r := range recs {
		must(t, s.Append(r))
		must(t, s.Rotate())
	}
	return d, s
}

// strewn is a store with these records, of all versions, over segments of any length and of all versions, some of them without a record.
func strewn(t *testing.T, r *rand.Rand, recs []api.Record) (*disk.Disk, *store.Store) {
	t.Helper()
	d, s := opened(t, api.Options{V: 1, Limit: 64 + r.Intn(200)})
	for len(recs) > 0 {
		if v := max(recs[0].V, 1+r.Intn(8)*r.Intn(2)); v <= 3 && v > s.Stat().V {
			must(t, s.Raise(v))
		}
		n := 0
		for n < len(recs) && n <= r.Intn(4) && recs[n].V <= s.Stat().V {
			n++
		}
		must(t, s.Append(recs[:n]...))
		recs = recs[n:]
		switch r.Intn(8) {
		case 0:
			must(t, s.Rotate())
		case 1:
			must(t, s.Sync())
		}
	}
	return d, s
}

// valid is the records that a store takes.
func valid(recs []api.Record) []api.Record {
	var out []api.Record
	for _, r := range recs {
		if record.Check(r) == api.OK {
			out = append(out, r)
		}
	}
	return out
}

// fault is the store's fault that an error is; nil, if it is none.
func fault(err error) *store.Fault {
	var f *store.Fault
	errors.As(err, &f)
	return f
}

// own tells whether an error is that number alone, without a fault of the store's around it.
func own(err error, e api.Errno) bool { return errors.Is(err, e) && fault(err) == nil }

// theirs tells whether an error is the store's fault of that call with that number.
func theirs(err error, op string, e api.Errno) bool {
	return errors.Is(err, e) && fault(err) != nil && fault(err).Op == op
}

// Promise 11.6: the chapter's examples, and a store of no record.
func TestRun(t *testing.T) {
	for i, row := range []struct {
		recs []api.Record
		want api.State
		at   int
	}{
		{nil, none, -1},
		{[]api.Record{recB}, begun, -1},
		{[]api.Record{recB, recS, recD}, done, -1},
		{[]api.Record{recB, recS, recD, recE}, whole, -1},
		{[]api.Record{recB, recD, recS}, begun, 1},
		{[]api.Record{recS, recB}, none, 0},
		{[]api.Record{recB, recB}, begun, 1},
	} {
		_, s := laid(t, row.recs...)
		for workers := 1; workers <= api.MaxWorkers; workers++ {
			if got, at, err := replay.Run(s, workers); err != nil || at != row.at || !same(got, row.want) {
				t.Errorf("row %d, %d workers: %+v, %d, %v", i, workers, got, at, err)
			}
		}
	}
}

// Promise 11.6: what Run refuses, in its order; beside an error all else is zero.
func TestRunRefuses(t *testing.T) {
	check := func(what string, s *store.Store, workers int, ok func(error) bool) {
		t.Helper()
		if st, at, err := replay.Run(s, workers); !ok(err) || at != 0 || !same(st, none) {
			t.Errorf("%s, %d workers: %+v, %d, %v", what, workers, st, at, err)
		}
	}
	arg := func(err error) bool { return own(err, api.ErrArg) }
	down := func(err error) bool { return theirs(err, "blobs", api.ErrDown) }
	d, s := laid(t, recB, recS)
	for _, workers := range []int{math.MinInt, -1, 0, api.MaxWorkers + 1, math.MaxInt} {
		check("a store", s, workers, arg)
		check("no store", nil, workers, arg)
	}
	check("no store", nil, 1, arg)
	d.Arm(0)
	d.SyncDir()
	for _, workers := range []int{-1, 0, 1, api.MaxWorkers, api.MaxWorkers + 1} {
		check("a store on a disk that is down", s, workers, down)
		check("no store", nil, workers, arg)
	}
}

// Promises 11.6, 11.7: over whatever segments a log lies, legal or not, Run is Fold of the list, and One is the fold of the saga's records alone.
func TestStoresFold(t *testing.T) {
	r := rand.New(rand.NewSource(21))
	most, illegal := 0, 0
	for i := range 120 {
		recs := drawLog(r, 50, 9, 2, math.MaxInt)
		if i%2 == 1 {
			recs = valid(spoiled(r, recs, 2, 9, 5))
		}
		_, s := strewn(t, r, recs)
		most = max(most, s.Stat().Segs)
		list, err := s.Records()
		must(t, err)
		want, place := fold(recs)
		if got, at := replay.Fold(list...); at != place || !same(got, want) {
			t.Fatalf("the list folds to %+v, %d, not %+v, %d", got, at, want, place)
		}
		for workers := 1; workers <= api.MaxWorkers; workers++ {
			if got, at, err := replay.Run(s, workers); err != nil || at != place || !same(got, want) {
				t.Fatalf("%d workers: %+v, %d, %v, not %+v, %d", workers, got, at, err, want, place)
			}
		}
		for _, id := range []int{1, 2, 5, 9, math.MaxInt} {
			mine := ledger(recs).of(id)
			want, place := fold(mine)
			got, err := replay.One(s, id)
			switch {
			case len(mine) == 0:
				if !own(err, api.ErrNoSaga) || !same(got, api.Saga{}) {
					t.Fatalf("One(%d), of which there is none: %+v, %v", id, got, err)
				}
			case place != -1:
				illegal++
				if !own(err, api.ErrIllegal) || !same(got, api.Saga{}) {
					t.Fatalf("One(%d), which is not legal: %+v, %v", id, got, err)
				}
			case err != nil || !same(got, want.Sagas[0]):
				t.Fatalf("One(%d): %+v, %v, not %+v", id, got, err, want.Sagas[0])
			}
		}
	}
	if most < 10 || illegal < 10 {
		t.Errorf("at most %d segments; %d sagas were not legal", most, illegal)
	}
}

// Promise 11.6: as many segments as there can be, a record each, are folded in the log's order, however the workers run.
func TestRunKeepsTheOrder(t *testing.T) {
	d, s := opened(t, api.Options{V: 3, Limit: 64})
	recs := []api.Record{{V: 3, Kind: api.KBegin, Saga: 1, Count: 1, Name: "buy"}}
	for try := 1; len(recs) < api.MaxSegs-2; try++ {
		recs = append(recs, api.Record{V: 3, Kind: api.KStart, Saga: 1, Try: try, At: try}, api.Record{V: 3, Kind: api.KFail, Saga: 1, At: try})
	}
	for i, r := range recs {
		if i > 0 {
			must(t, s.Rotate())
		}
		must(t, s.Append(r))
	}
	must(t, s.Rotate())
	if n := s.Stat().Segs; n != api.MaxSegs {
		t.Fatalf("%d segments", n)
	}
	want, _ := fold(recs)
	for range 20 {
		for workers := 1; workers <= api.MaxWorkers; workers++ {
			if got, at, err := replay.Run(s, workers); err != nil || at != -1 || !same(got, want) {
				t.Fatalf("%d workers: %+v, %d, %v", workers, got, at, err)
			}
		}
	}
	if s, err := store.Open(d, api.Options{V: 3, Limit: 64}); err != nil {
		t.Error(err)
	} else if got, at, err := replay.Run(s, 5); err != nil || at != -1 || !same(got, want) {
		t.Errorf("opened again: %+v, %d, %v", got, at, err)
	}
}

// Promise 11.7: what One refuses, in its order; beside an error all else is zero.
func TestOneRefuses(t *testing.T) {
	check := func(what string, s *store.Store, ok func(error) bool, ids ...int) {
		t.Helper()
		for _, id := range ids {
			if got, err := replay.One(s, id); !ok(err) || !same(got, api.Saga{}) {
				t.Errorf("%s, One(%d): %+v, %v", what, id, got, err)
			}
		}
	}
	illegal := func(err error) bool { return own(err, api.ErrIllegal) }
	d, s := laid(t, recB, recS, recD)
	check("no store", nil, func(err error) bool { return own(err, api.ErrArg) }, math.MinInt, -1, 0, 7, 8)
	check("a store", s, func(err error) bool { return theirs(err, "lookup", api.ErrArg) }, math.MinInt, -1, 0)
	check("a store", s, func(err error) bool { return own(err, api.ErrNoSaga) }, 1, 6, 8, math.MaxInt)
	_, stray := laid(t, recS)
	check("a store without the begin", stray, illegal, 7)
	_, twice := laid(t, recB, recS, recD, recE, recB)
	check("a store with the saga twice", twice, illegal, 7)
	d.Arm(0)
	d.SyncDir()
	check("a store on a disk that is down", s, func(err error) bool { return theirs(err, "lookup", api.ErrDown) }, -1, 0, 7, 8)
}

// Promise 11.7: what other sagas' records are does not matter, nor in which segments a saga's own lie.
func TestOneAlone(t *testing.T) {
	_, s := laid(t, of(8, recS), recB, of(9, recB), recS, of(9, recB), recD, of(3, recE))
	must(t, s.Append(of(2, recB), recE, of(2, recD))) // in the active segment
	if got, err := replay.One(s, 7); err != nil || !same(got, whole.Sagas[0]) {
		t.Errorf("One(7): %+v, %v", got, err)
	}
	for _, id := range []int{2, 3, 8, 9} {
		if got, err := replay.One(s, id); !own(err, api.ErrIllegal) || !same(got, api.Saga{}) {
			t.Errorf("One(%d): %+v, %v", id, got, err)
		}
	}
	if st, at, err := replay.Run(s, 2); err != nil || at != 0 || !same(st, none) {
		t.Errorf("Run: %+v, %d, %v", st, at, err)
	}
}

// Promises 11.6, 11.7: behind a crash, with a torn end of the active segment, the store that comes back folds as its list does.
func TestBehindACrash(t *testing.T) {
	r := rand.New(rand.NewSource(22))
	for range 60 {
		d, s := strewn(t, r, drawLog(r, 30, 1, 2, 3))
		d.Arm(r.Intn(4))
		for !d.Down() {
			if s.Append(api.Record{V: 1, Kind: api.KBegin, Saga: 4 + r.Intn(1<<20), Step: 1, Data: []byte("x")}) == nil && r.Intn(2) == 0 {
				s.Rotate()
			}
		}
		var cuts []api.Cut
		for range d.Files() {
			cuts = append(cuts, api.Cut{Keep: r.Intn(80), Zero: r.Intn(9)})
		}
		back, e := disk.Load(1<<18, d.Crash(r.Intn(5), cuts...))
		if e != api.OK {
			t.Fatal(e)
		}
		s, err := store.Open(back, api.Options{V: 3, Limit: 64})
		must(t, err)
		list, err := s.Records()
		must(t, err)
		want, place := fold(list)
		if got, at, err := replay.Run(s, 1+r.Intn(16)); err != nil || at != place || !same(got, want) {
			t.Fatalf("%+v, %d, %v, not %+v, %d", got, at, err, want, place)
		}
		for _, one := range want.Sagas {
			if got, err := replay.One(s, one.ID); err != nil || !same(got, one) {
				t.Fatalf("One(%d): %+v, %v, not %+v", one.ID, got, err, one)
			}
		}
	}
}

// Promises 11.6, 11.13: where somebody else has changed a store's files nothing panics, and what the store says of it is handed on.
func TestForeignHands(t *testing.T) {
	for _, name := range []string{"s1", "s2", "s3", "s4"} {
		for size := range 20 {
			d, s := laid(t, recB, recS, recD)
			if d.Truncate(name, size) != api.OK { // the active one is short
				continue
			}
			list, want := s.Records()
			st, at, err := replay.Run(s, 3)
			replay.One(s, 7)
			if want == nil {
				if state, place := fold(list); err != nil || at != place || !same(st, state) {
					t.Errorf("%s cut to %d: %+v, %d, %v", name, size, st, at, err)
				}
			} else if !theirs(err, "records", api.ErrCorrupt) || at != 0 || !same(st, none) {
				t.Errorf("%s cut to %d: %+v, %d, %v", name, size, st, at, err)
			}
		}
		d, s := laid(t, recB, recS, recD)
		d.Remove(name)
		if st, at, err := replay.Run(s, 3); !theirs(err, "blobs", api.ErrLost) || at != 0 || !same(st, none) {
			t.Errorf("%s removed: %+v, %d, %v", name, st, at, err)
		}
		replay.One(s, 7)
		d, s = laid(t, recB, recS, recD)
		d.Append(name, []byte("junk"))
		replay.Run(s, 3)
		replay.One(s, 7)
	}
}

// Rule 8 of the document: no worker is left over when Run answers.
func TestWorkersEnd(t *testing.T) {
	_, s := laid(t, recB, recS, recD)
	before := runtime.NumGoroutine()
	for workers := -1; workers <= api.MaxWorkers+1; workers++ {
		replay.Run(s, workers)
	}
	for wait := 0; runtime.NumGoroutine() > before; wait++ { // one that has told its end may need a moment to be gone
		if wait > 1000 {
			t.Fatalf("%d goroutines, %d ahead of it", runtime.NumGoroutine(), before)
		}
		time.Sleep(time.Millisecond)
	}
}
