package rewrite_test

import (
	"errors"
	"fmt"
	"math/rand"
	"slices"
	"strconv"
	"strings"
	"testing"

	"annals/api"
	"annals/disk"
	"annals/lift"
	"annals/record"
	"annals/rewrite"
	"annals/store"
)

// tell is all that an answer holds, as a text; nil and empty lists are the same.
func tell(v any) string { return fmt.Sprintf("%+v", v) }

func pick[T any](r *rand.Rand, list ...T) T { return list[r.Intn(len(list))] }

func sameRecs(a, b []api.Record) bool { return slices.EqualFunc(a, b, record.Same) }

func must(t *testing.T, err error) {
	t.Helper()
	if err != nil {
		t.Fatal(err)
	}
}

// split is the second reading of Split: each record is held against all of them.
func split(recs []api.Record) (live, dead []api.Record) {
	for _, r := range recs {
		ends := func(x api.Record) bool { return x.Saga == r.Saga && x.Kind == 7 }
		if slices.ContainsFunc(recs, ends) {
			dead = append(dead, r)
		} else {
			live = append(live, r)
		}
	}
	return live, dead
}

// ids is the sagas of records, rising.
func ids(recs []api.Record) []int {
	var out []int
	for _, r := range recs {
		out = append(out, r.Saga)
	}
	slices.Sort(out)
	return slices.Compact(out)
}

// lifted is records in the version v.
func lifted(t *testing.T, v int, recs []api.Record) []api.Record {
	t.Helper()
	out, at, e := lift.UpAll(v, recs...)
	if e != api.OK {
		t.Fatalf("%+v is not lifted to %d: %d", recs[at], v, e)
	}
	return out
}

// A call is one of the two that rewrite, beside what the chapter says that it is.
type call struct {
	why string
	do  func(*store.Store) (api.Report, error)
	// as tells what is to be handed to Replace, and of how many sagas the records go; false, if nothing is to be done.
	as func(now api.Stat, recs []api.Record) (v, top int, list []api.Record, sagas int, needed bool)
}

var compact = call{"compact", rewrite.Compact, func(now api.Stat, recs []api.Record) (int, int, []api.Record, int, bool) {
	live, dead := split(recs)
	if len(dead) == 0 {
		return 0, 0, nil, 0, false
	}
	gone := ids(dead)
	return now.V, gone[len(gone)-1], live, len(gone), true
}}

var upgrade = call{"upgrade", rewrite.Upgrade, func(now api.Stat, recs []api.Record) (int, int, []api.Record, int, bool) {
	old := slices.ContainsFunc(recs, func(r api.Record) bool { return r.V < 3 })
	return 3, 0, recs, 0, old || now.V < 3
}}

var calls = []call{compact, upgrade}

// twin does with a store what the chapter says that the call does with one: a Replace, or nothing.
func (c call) twin(s *store.Store) (api.Report, error) {
	recs, err := s.Records()
	if err != nil {
		return api.Report{}, err
	}
	was := s.Stat()
	v, top, list, sagas, needed := c.as(was, recs)
	if needed {
		if err := s.Replace(v, top, list...); err != nil {
			return api.Report{}, err
		}
	}
	now := s.Stat()
	return api.Report{Before: len(recs), After: now.Records, Sagas: sagas, Segs0: was.Segs, Segs1: now.Segs, Bytes0: was.Bytes, Bytes1: now.Bytes}, nil
}

// view is all that can be seen of a store and its disk, the crashes that it may leave too.
func view(t *testing.T, d *disk.Disk, s *store.Store) string {
	t.Helper()
	out := tell(s.Stat()) + tell(s.Segments()) + tell(d.Down()) + tell(d.Free()) + tell(d.List()) + raw(d.Files())
	for keep := range 6 {
		out += raw(d.Crash(keep)) + raw(d.Crash(keep, slices.Repeat([]api.Cut{{Keep: 3, Zero: 2}}, 150)...))
	}
	return out
}

// raw is files as a text that is made fast.
func raw(files []api.File) string {
	var out strings.Builder
	for _, f := range files {
		out.WriteString("\n" + f.Name + " " + strconv.Itoa(len(f.Data)) + " ")
		out.Write(f.Data)
	}
	return out.String()
}

// fault is what an error of this layer holds, once it was held against all that is promised of each; the zero fault of none.
func fault(t *testing.T, err error) rewrite.Fault {
	t.Helper()
	if err == nil {
		return rewrite.Fault{}
	}
	f, is := err.(*rewrite.Fault)
	if !is || f == nil || f.Err == nil || errors.Unwrap(err) != f.Err {
		t.Fatalf("%v is no fault of this layer", err)
	}
	var e api.Errno
	var g *store.Fault
	if !errors.As(err, &e) || e == api.OK || !errors.Is(err, e) {
		t.Fatalf("%v has no number at its end", err)
	}
	if errors.As(err, &g) != (f.Err != api.ErrArg) || err.Error() != f.Why+": "+f.Err.Error() {
		t.Fatalf("%v: %v within", err, f.Err)
	}
	return *f
}

// fresh is a store on a new disk.
func fresh(t *testing.T, quota int, o api.Options, recs ...api.Record) (*disk.Disk, *store.Store) {
	t.Helper()
	d, e := disk.New(quota)
	if e != api.OK {
		t.Fatal(e)
	}
	return d, opened(t, d, o, recs...)
}

// opened is the disk's store, with more records behind those that it has.
func opened(t *testing.T, d *disk.Disk, o api.Options, recs ...api.Record) *store.Store {
	t.Helper()
	s, err := store.Open(d, o)
	must(t, err)
	for _, r := range recs {
		must(t, s.Append(r))
	}
	return s
}

func listOf(t *testing.T, s *store.Store) []api.Record {
	t.Helper()
	out, err := s.Records()
	must(t, err)
	return out
}

// drawRec is a valid record of a version from 1 to v: of one of few sagas, so that some of them end and some do not.
func drawRec(r *rand.Rand, v int) api.Record {
	x := api.Record{V: 1 + r.Intn(v), Kind: 1 + r.Intn(6), Saga: pick(r, 1, 2, 3, 4, 5, 6, 127, 128, 1<<40, api.MaxID)}
	if r.Intn(10) == 0 {
		x.Kind = api.KEnd
	}
	fields := record.Fields(x.V, x.Kind)
	has := func(tag int) bool { return slices.Contains(fields, tag) }
	// Not a map: the same seed has to draw the same.
	for _, f := range []struct {
		tag, least, more int
		to               *int
	}{{3, 1, 3, &x.Step}, {4, 1, 3, &x.Try}, {5, 0, 2, &x.At}, {6, 0, 2, &x.Last}, {7, 0, 2, &x.Code}, {8, 1, 3, &x.Count}} {
		if has(f.tag) {
			*f.to = f.least + r.Intn(f.more)
		}
	}
	if has(9) {
		x.Pivot = r.Intn(x.Count + 1)
	}
	if has(10) {
		x.Name = pick(r, "pay", "a", "bücher")
	}
	if has(11) {
		x.Data = []byte(pick(r, "pay", "x", strings.Repeat("d", r.Intn(40)+1)))
	}
	return x
}

// The records that the tests draw are valid.
func TestDrawnRecords(t *testing.T) {
	r := rand.New(rand.NewSource(120))
	for range 2000 {
		if x := drawRec(r, 3); record.Check(x) != api.OK {
			t.Fatalf("%+v: %d", x, record.Check(x))
		}
	}
}

// drawn is a store behind drawn calls, all versions mingled; the same seed draws the same. Calls that a small disk refuses leave it as it was.
func drawn(t *testing.T, seed int64, quota int) (*disk.Disk, *store.Store) {
	t.Helper()
	r := rand.New(rand.NewSource(seed))
	d, s := fresh(t, quota, api.Options{V: 1 + r.Intn(3), Limit: 64 + r.Intn(200)})
	for range r.Intn(25) {
		switch r.Intn(12) {
		case 0:
			s.Sync()
		case 1:
			s.Rotate()
		case 2:
			s.Raise(1 + r.Intn(3))
		case 3:
			if recs, err := s.Records(); err == nil {
				s.Replace(s.Stat().V, r.Intn(200), recs...)
			}
		default:
			var recs []api.Record
			for range 1 + r.Intn(3) {
				recs = append(recs, drawRec(r, s.Stat().V))
			}
			s.Append(recs...)
		}
	}
	return d, s
}
