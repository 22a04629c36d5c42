package query_test

import (
	"errors"
	"fmt"
	"math"
	"math/rand"
	"slices"
	"testing"

	"annals/api"
	"annals/disk"
	"annals/query"
	"annals/store"
)

func must(t *testing.T, err error) {
	t.Helper()
	if err != nil {
		t.Fatal(err)
	}
}

// opened is a store on a new disk with these records, in segments of that limit.
func opened(t *testing.T, limit int, recs ...api.Record) (*disk.Disk, *store.Store) {
	t.Helper()
	d, _ := disk.New(1 << 20)
	s, err := store.Open(d, api.Options{V: 1, Limit: limit})
	must(t, err)
	for _, r := range recs {
		must(t, s.Raise(max(r.V, s.Stat().V)))
		must(t, s.Append(r))
	}
	return d, s
}

// sight is all that can be seen of a store and its disk.
func sight(d *disk.Disk, s *store.Store) string {
	return tell(s.Stat()) + tell(s.Segments()) + tell(d.Down()) + tell(d.Free()) + tell(d.Files()) + tell(d.Crash(0)) + tell(d.Crash(9, api.Cut{Keep: 3, Zero: 1}))
}

// faultOf is an error's Fault.
func faultOf(t *testing.T, err error) *query.Fault {
	t.Helper()
	f, is := err.(*query.Fault)
	var found *query.Fault
	if !is || !errors.As(err, &found) || found != f {
		t.Fatalf("%v is no Fault", err)
	}
	return f
}

// Promises 20.8, 20.9, W7: what On tells of a store is what Run tells of its records, looked up or not; nothing of the store is changed.
func TestOnDrawn(t *testing.T) {
	t.Parallel()
	r := rand.New(rand.NewSource(209))
	lookups, told, totals := 0, 0, 0
	for range 120 {
		d, s := opened(t, pick(r, 64, 64, 100, 300, 65536), drawLog(r, r.Intn(40))...)
		if r.Intn(3) == 0 {
			must(t, s.Sync())
		}
		recs, err := s.Records()
		must(t, err)
		was := sight(d, s)
		for range 30 {
			q := drawQuery(r)
			if r.Intn(3) > 0 {
				q = pinnedTo(r, q, pick(r, 1, 2, 5, 7, 9, 3, 1000, math.MaxInt))
			}
			text, e := query.Print(q)
			if x, _ := query.Explain(q); x != "scan" {
				lookups++
			}
			got, err := query.On(s, text)
			want, wantE := query.Run(q, recs...)
			if e != api.OK || !same(got, want) {
				t.Fatalf("On(%s) = %+v, %v, not %+v, %d", text, got, err, want, wantE)
			}
			if wantE != api.OK {
				totals++
				if f := faultOf(t, err); wantE != api.ErrTotal || *f != (query.Fault{At: -1, Err: api.ErrTotal}) {
					t.Fatalf("On(%s) is refused by %v, not by %d", text, err, wantE)
				}
			} else if err != nil {
				t.Fatalf("On(%s): %v", text, err)
			}
			if len(want.Rows) > 0 {
				told++
			}
		}
		if sight(d, s) != was {
			t.Fatal("asking changes a store")
		}
	}
	if lookups < 1000 || told < 1000 || totals < 20 {
		t.Errorf("%d lookups, %d answers with rows, %d sums outside int", lookups, told, totals)
	}
}

// pinnedTo is a query about one saga alone, by its form.
func pinnedTo(r *rand.Rand, q api.Query, id int) api.Query {
	one := api.Expr{Kind: api.XEq, Field: []string{"", "saga", "id"}[q.From], Cells: []api.Cell{number(id)}}
	switch {
	case q.Where.Kind == api.XNone || r.Intn(3) == 0:
		q.Where = one
	case r.Intn(2) == 0:
		q.Where = joined(api.XAnd, q.Where, one)
	default:
		q.Where = joined(api.XAnd, one, q.Where)
	}
	return q
}

// Promise 20.8: the chapter's queries over stores in segments of all kinds.
func TestOnExamples(t *testing.T) {
	for _, limit := range []int{64, 65536} {
		_, s := opened(t, limit, exampleLog()...)
		for _, c := range [][2]string{
			{`from records where saga = 5 and kind != "begin" select kind, at`, `"start" 2; "done" 3`},
			{`from sagas where id = 7 select id, phase, fail_code`, `7 "undoing" 9`},
			{`from sagas where id = 6 select id`, ``},
			{`from sagas where id = 6 select count()`, `0`},
			{`from records where saga = 7 and (saga = 7 or saga = 5) select count()`, `3`},
			{`from records where saga = 7 and saga = 5 select count()`, `0`},
			{`from records where saga = 0 select count()`, `0`},
			{`from records where saga = -1 and at = 1 select count()`, `0`},
			{`from records where not saga = 5 select at`, `4; 5; 6`},
			{`from records select max(at)`, `6`},
		} {
			got, err := query.On(s, c[0])
			if err != nil || written(got) != c[1] {
				t.Errorf("%s: %s, %v, not %s", c[0], written(got), err, c[1])
			}
		}
	}
}

// Promise 20.7: a Fault's words and what it wraps.
func TestFault(t *testing.T) {
	inner := &store.Fault{Op: "lookup", At: -1, Err: api.ErrDown}
	for _, c := range []struct {
		f    query.Fault
		want string
	}{
		{query.Fault{At: -1, Err: api.ErrArg}, "query: error 1"}, {query.Fault{At: 0, Err: api.ErrQuery}, "query at 0: error 201"}, {query.Fault{At: 65536, Err: api.ErrLong}, "query at 65536: error 2"}, {query.Fault{At: math.MaxInt, Err: api.ErrLong}, fmt.Sprintf("query at %d: error 2", math.MaxInt)},
		{query.Fault{At: -1}, "query: nothing"}, {query.Fault{}, "query at 0: nothing"}, {query.Fault{At: 7}, "query at 7: nothing"}, {query.Fault{At: math.MinInt, Err: inner}, "query: lookup: error 60"}, {query.Fault{At: 3, Err: inner}, "query at 3: lookup: error 60"}, {query.Fault{At: -1, Err: &query.Fault{At: 2, Err: api.OK}}, "query: query at 2: error 0"},
	} {
		if got := c.f.Error(); got != c.want || c.f.Unwrap() != c.f.Err {
			t.Errorf("%+v: %q, not %q", c.f, got, c.want)
		}
	}
	var down error = &query.Fault{At: -1, Err: inner}
	var found *store.Fault
	if !errors.Is(down, api.ErrDown) || errors.Is(down, api.ErrFull) || !errors.As(down, &found) || found != inner {
		t.Error("a Fault does not tell what it wraps")
	}
}

// Promise 20.8: the faults, and which comes first.
func TestOnFaults(t *testing.T) {
	for _, text := range []string{"", "from logs", "from records select at"} {
		got, err := query.On(nil, text)
		if f := faultOf(t, err); *f != (query.Fault{At: -1, Err: api.ErrArg}) || err.Error() != "query: error 1" || !same(got, api.Table{}) {
			t.Errorf("%v", err)
		}
	}
	l := exampleLog()
	l[0].At, l[3].At = math.MaxInt, math.MaxInt
	d, s := opened(t, 64, l...)
	texts := []string{"", "from logs", "from records select at at", "from records where at = 01 select at", "from records where saga = \"5\" select at", deep(17), "\xff", "from records where saga = 5 select sum(kind)", string(make([]byte, 65537)), "from records select at, count()", "from records select at limit -1"}
	check := func() {
		t.Helper()
		for _, text := range texts {
			got, err := query.On(s, text)
			_, e, at := query.Parse(text)
			if f := faultOf(t, err); *f != (query.Fault{At: at, Err: e}) || !errors.Is(err, e) || !same(got, api.Table{}) {
				t.Errorf("On(%.40q): %v, not %d at %d", text, err, e, at)
			}
		}
	}
	check()
	if _, err := query.On(s, "from logs"); err.Error() != "query at 5: error 202" {
		t.Error(err)
	}
	sums := []string{"from records select sum(at)", "from records select count() order by sum(at) limit 0"}
	for _, text := range sums {
		if got, err := query.On(s, text); *faultOf(t, err) != (query.Fault{At: -1, Err: api.ErrTotal}) || err.Error() != "query: error 206" || !same(got, api.Table{}) {
			t.Errorf("%s: %+v, %v", text, got, err)
		}
	}
	// An armed disk stays up, whatever is asked: no call is a changing one.
	d.Arm(0)
	was := sight(d, s)
	for _, text := range append(texts, "from records where saga = 5 select at", "from records select at", "from sagas select id", sums[0]) {
		query.On(s, text)
	}
	if d.Down() || sight(d, s) != was {
		t.Error("asking changes the disk")
	}
	d.SyncDir()
	check() // a fault of the text comes ahead of the disk's being down
	for text, op := range map[string]string{"from records where saga = 5 select at": "lookup", "from sagas where at = 1 and id = 99 select id": "lookup", "from records select at": "records", "from sagas where id = 0 select id": "records", "from records where saga = 5 or saga = 7 select at": "records", "from records where not saga = 5 select at": "records", sums[0]: "records"} {
		got, err := query.On(s, text)
		f := faultOf(t, err)
		var inner *store.Fault
		if f.At != -1 || !errors.As(f.Err, &inner) || inner.Op != op || !errors.Is(err, api.ErrDown) || err.Error() != "query: "+op+": error 60" || !same(got, api.Table{}) {
			t.Errorf("%s: %v", text, err)
		}
	}
}

// Promises 20.8, 20.9: a store behind a crash, a compaction and an upgrade tells what its records are then.
func TestOnBehindChanges(t *testing.T) {
	r := rand.New(rand.NewSource(2089))
	for range 40 {
		d, s := opened(t, 64, drawLog(r, 30)...)
		switch r.Intn(3) {
		case 0:
			again, e := disk.Load(1<<20, d.Crash(0, slices.Repeat([]api.Cut{{Keep: r.Intn(40)}}, 150)...))
			if e != api.OK {
				t.Fatal(e)
			}
			var err error
			s, err = store.Open(again, api.Options{V: 3, Limit: 64})
			must(t, err)
		case 1:
			must(t, s.Replace(3, 0, drawLog(r, 30)...))
		case 2:
			must(t, s.Raise(3))
			must(t, s.Rotate())
		}
		recs, err := s.Records()
		must(t, err)
		for _, text := range []string{"from records where saga = 5 select v, kind, at, data", "from sagas where id = 2 select name, phase", "from records group by saga select saga, count()", "from sagas select id, at"} {
			got, err := query.On(s, text)
			if want, e := query.Run(parsed(t, text), recs...); err != nil || e != api.OK || !same(got, want) {
				t.Fatalf("%s: %+v, %v, not %+v", text, got, err, want)
			}
		}
	}
}
