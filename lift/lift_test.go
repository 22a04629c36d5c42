package lift_test

import (
	"fmt"
	"math"
	"slices"
	"strings"
	"testing"

	"annals/api"
	"annals/lift"
	"annals/record"
)

// oddVersions are numbers that are no version.
var oddVersions = []int{math.MinInt, -255, -3, -1, 0, 4, 5, 257, math.MaxInt}

// tell is all that a record holds, as a text; nil and empty data are the same.
func tell(r api.Record) string { return fmt.Sprintf("%+v", r) }

func equal(a, b api.Record) bool { return tell(a) == tell(b) }

// numbers are some values of a number's field: its edges, what lifting fills in, and what it does not. (Those of Count are those of Step but 0, so that every begin that could be lifted is among the valid ones.)
func numbers(tag int) []int {
	switch tag {
	case 3:
		return []int{0, 1, 2, 31, 32}
	case 4:
		return []int{1, 2, 1000}
	case 5:
		return []int{0, 1, api.MaxID}
	case 6:
		return []int{0, 1}
	case 7:
		return []int{0, 1, 2, -1, math.MinInt, math.MaxInt}
	case 8:
		return []int{1, 2, 31, 32}
	}
	return []int{0, 1, 32}
}

var (
	names = []string{"buy", "é", strings.Repeat("\U00010400", 48)}
	datas = append([]string{"", "no", "\x00\xff"}, names...)
)

// spread is the records with each of several values in the field of a tag.
func spread(recs []api.Record, tag int) []api.Record {
	var out []api.Record
	for _, r := range recs {
		switch tag {
		case 10:
			for _, s := range names {
				r.Name = s
				out = append(out, r)
			}
		case 11:
			for _, s := range datas {
				r.Data = []byte(s)
				out = append(out, r)
			}
		default:
			for _, n := range numbers(tag) {
				*[...]*int{3: &r.Step, 4: &r.Try, 5: &r.At, 6: &r.Last, 7: &r.Code, 8: &r.Count, 9: &r.Pivot}[tag] = n
				out = append(out, r)
			}
		}
	}
	return out
}

// valid is many valid records of a version and a kind: all that can be made of the values above.
func valid(v, kind int) []api.Record {
	recs := []api.Record{{V: v, Kind: kind, Saga: 7}, {V: v, Kind: kind, Saga: api.MaxID}}
	for _, tag := range record.Fields(v, kind) {
		if tag > 2 {
			recs = spread(recs, tag)
		}
	}
	return slices.DeleteFunc(recs, func(r api.Record) bool { return record.Check(r) != api.OK })
}

// eachValid calls f with every record of valid, of all versions and kinds.
func eachValid(f func(r api.Record)) {
	for v := 1; v <= 3; v++ {
		for kind := api.KBegin; kind <= api.KEnd; kind++ {
			for _, r := range valid(v, kind) {
				f(r)
			}
		}
	}
}

// lifted is a valid record as one of a version not below its own, read off the chapter's table.
func lifted(r api.Record, to int) api.Record {
	out := r
	if r.V == 1 && to > 1 {
		switch r.Kind {
		case api.KBegin:
			out = api.Record{Kind: api.KBegin, Saga: r.Saga, Count: r.Step, Name: string(r.Data)}
		case api.KStart:
			out = api.Record{Kind: api.KStart, Saga: r.Saga, Step: r.Step, Try: 1}
		case api.KUndo:
			out = api.Record{Kind: api.KUndo, Saga: r.Saga, Step: r.Step, Try: 1}
		case api.KFail:
			out = api.Record{Kind: api.KFail, Saga: r.Saga, Step: r.Step, Last: 1, Data: r.Data}
		}
	}
	out.V = to
	return out
}

// lost tells whether a valid record can't go down to a version, by the chapter's list of what is lost.
func lost(r api.Record, to int) bool {
	if r.V == 3 && to < 3 && (r.Pivot != 0 || r.Code != 0) {
		return true
	}
	if r.V == 1 || to > 1 {
		return false
	}
	switch r.Kind {
	case api.KBegin:
		return r.At != 0 || len(r.Data) != 0
	case api.KStart, api.KUndo:
		return r.At != 0 || r.Try != 1
	case api.KFail:
		return r.At != 0 || r.Last != 1
	}
	return r.At != 0
}

// Promises 4.1, 4.2, 4.5: the chapter's examples.
func TestExamples(t *testing.T) {
	type rec = api.Record
	rows := []struct {
		call func(api.Record, int) (api.Record, api.Errno)
		r    api.Record
		to   int
		want api.Record
		e    api.Errno
	}{
		{lift.Up, rec{V: 1, Kind: 1, Saga: 7, Step: 3, Data: []byte("buy")}, 3, rec{V: 3, Kind: 1, Saga: 7, Count: 3, Name: "buy"}, 0},
		{lift.Up, rec{V: 1, Kind: 2, Saga: 7, Step: 1}, 2, rec{V: 2, Kind: 2, Saga: 7, Step: 1, Try: 1}, 0},
		{lift.Up, rec{V: 1, Kind: 4, Saga: 7, Step: 1, Data: []byte("no")}, 3, rec{V: 3, Kind: 4, Saga: 7, Step: 1, Last: 1, Data: []byte("no")}, 0},
		{lift.Up, rec{V: 1, Kind: 7, Saga: 7}, 2, rec{V: 2, Kind: 7, Saga: 7}, 0},
		{lift.Up, rec{V: 2, Kind: 7, Saga: 7}, 1, rec{}, api.ErrWay},
		{lift.Up, rec{V: 2, Kind: 7}, 4, rec{}, api.ErrID},
		{lift.Up, rec{V: 2, Kind: 7, Saga: 7}, 4, rec{}, api.ErrVersion},
		{lift.Down, rec{V: 3, Kind: 1, Saga: 7, Count: 3, Name: "buy"}, 1, rec{V: 1, Kind: 1, Saga: 7, Step: 3, Data: []byte("buy")}, 0},
		{lift.Down, rec{V: 3, Kind: 1, Saga: 7, Count: 3, Name: "buy", Data: []byte("x")}, 1, rec{}, api.ErrLoss},
		{lift.Down, rec{V: 3, Kind: 1, Saga: 7, Count: 3, Name: "buy", Data: []byte("x")}, 2, rec{V: 2, Kind: 1, Saga: 7, Count: 3, Name: "buy", Data: []byte("x")}, 0},
		{lift.Down, rec{V: 2, Kind: 2, Saga: 7, Step: 1, Try: 2}, 1, rec{}, api.ErrLoss},
		{lift.Down, rec{V: 2, Kind: 4, Saga: 7, Step: 1}, 1, rec{}, api.ErrLoss},
		{lift.Down, rec{V: 3, Kind: 7, Saga: 7, Code: 1}, 2, rec{}, api.ErrLoss},
		{lift.Down, rec{V: 3, Kind: 7, Saga: 7, At: 4}, 2, rec{V: 2, Kind: 7, Saga: 7, At: 4}, 0},
	}
	for i, row := range rows {
		if got, e := row.call(row.r, row.to); e != row.e || !equal(got, row.want) {
			t.Errorf("row %d: %+v, %d", i, got, e)
		}
	}
	if v, e := lift.Least(rec{V: 3, Kind: 7, Saga: 7, At: 4}); v != 2 || e != api.OK {
		t.Errorf("the least version of an end with a time: %d, %d", v, e)
	}
	if v, e := lift.Least(rec{V: 3, Kind: 4, Saga: 7, Last: 1}); v != 1 || e != api.OK {
		t.Errorf("the least version of a failure for good: %d, %d", v, e)
	}
}

// Promise 4.1: every kind lifted from every version, by the table; to its own version a record stays, and to a lower one it does not go.
func TestUp(t *testing.T) {
	eachValid(func(r api.Record) {
		for to := 1; to <= 3; to++ {
			want, wantE := lifted(r, to), api.OK
			if to < r.V {
				want, wantE = api.Record{}, api.ErrWay
			}
			if got, e := lift.Up(r, to); e != wantE || !equal(got, want) {
				t.Fatalf("Up(%+v, %d) = %+v, %d", r, to, got, e)
			}
		}
	})
}

// Promise 4.2: a record goes down unless one of the chapter's list is lost; to a higher version it does not go.
func TestDown(t *testing.T) {
	eachValid(func(r api.Record) {
		for to := 1; to <= 3; to++ {
			wantE := api.OK
			switch {
			case to > r.V:
				wantE = api.ErrWay
			case lost(r, to):
				wantE = api.ErrLoss
			}
			got, e := lift.Down(r, to)
			if e != wantE || e != api.OK && !equal(got, api.Record{}) {
				t.Fatalf("Down(%+v, %d) = %+v, %d, not %d", r, to, got, e, wantE)
			}
			if e == api.OK && (got.V != to || !equal(lifted(got, r.V), r)) {
				t.Fatalf("Down(%+v, %d) = %+v, which is not it when lifted", r, to, got)
			}
		}
	})
}

// Promises 4.2, 4.6: Down finds just those records that Up makes, each from the one that it was made of.
func TestDownIsUpTurnedRound(t *testing.T) {
	for to := 1; to <= 3; to++ {
		for v := to; v <= 3; v++ {
			for kind := api.KBegin; kind <= api.KEnd; kind++ {
				made := map[string]api.Record{}
				for _, low := range valid(to, kind) {
					up := lifted(low, v)
					if other, twice := made[tell(up)]; twice {
						t.Fatalf("%+v and %+v are lifted to one", low, other)
					}
					made[tell(up)] = low
				}
				for _, r := range valid(v, kind) {
					low, there := made[tell(r)]
					got, e := lift.Down(r, to)
					if there != (e == api.OK) || !equal(got, low) {
						t.Fatalf("Down(%+v, %d) = %+v, %d, not %+v", r, to, got, e, low)
					}
				}
			}
		}
	}
}

// Promises 4.1, 4.2, 4.5: the record's own error comes first, then the version's, then the direction's.
func TestOrderOfErrors(t *testing.T) {
	long := make([]byte, api.MaxData+1)
	rows := []struct {
		r api.Record
		e api.Errno
	}{
		{api.Record{}, api.ErrVersion},
		{api.Record{V: 4, Kind: 7, Saga: 7}, api.ErrVersion},
		{api.Record{V: -1, Kind: 7, Saga: 7}, api.ErrVersion},
		{api.Record{V: 2, Kind: 8, Saga: 7}, api.ErrKind},
		{api.Record{V: 2, Kind: 7}, api.ErrID},
		{api.Record{V: 2, Kind: 7, Saga: 7, Code: 1}, api.ErrExtra},
		{api.Record{V: 1, Kind: 2, Saga: 7, Try: 1}, api.ErrExtra},
		{api.Record{V: 2, Kind: 2, Saga: 7}, api.ErrBound},
		{api.Record{V: 3, Kind: 1, Saga: 7, Count: 3, Pivot: 4, Name: "buy"}, api.ErrBound},
		{api.Record{V: 1, Kind: 1, Saga: 7, Step: 1, Data: []byte("1")}, api.ErrLabel},
		{api.Record{V: 3, Kind: 3, Saga: 7, Data: long}, api.ErrData},
	}
	for _, row := range rows {
		for _, to := range append([]int{1, 2, 3}, oddVersions...) {
			if got, e := lift.Up(row.r, to); e != row.e || !equal(got, api.Record{}) {
				t.Errorf("Up(%.80q, %d): error %d, not %d", tell(row.r), to, e, row.e)
			}
			if got, e := lift.Down(row.r, to); e != row.e || !equal(got, api.Record{}) {
				t.Errorf("Down(%.80q, %d): error %d, not %d", tell(row.r), to, e, row.e)
			}
		}
		if v, e := lift.Least(row.r); v != 0 || e != row.e {
			t.Errorf("Least(%.80q) = %d, %d, not %d", tell(row.r), v, e, row.e)
		}
	}
	lossy := api.Record{V: 3, Kind: 7, Saga: 7, Code: 1}
	for v := 1; v <= 3; v++ {
		for _, r := range []api.Record{lossy, {V: v, Kind: 7, Saga: 7}} {
			for _, to := range oddVersions {
				got, e := lift.Up(r, to)
				got2, e2 := lift.Down(r, to)
				if e != api.ErrVersion || e2 != api.ErrVersion || !equal(got, api.Record{}) || !equal(got2, api.Record{}) {
					t.Errorf("%+v to %d: errors %d, %d", r, to, e, e2)
				}
			}
		}
	}
}

// Promises 4.1, 4.2: the longest data goes up and down whole.
func TestLongData(t *testing.T) {
	data := []byte(strings.Repeat("x\xff", api.MaxData/2))
	one := api.Record{V: 1, Kind: api.KFail, Saga: 7, Step: 31, Data: data}
	three := api.Record{V: 3, Kind: api.KFail, Saga: 7, Step: 31, Last: 1, Data: data}
	if got, e := lift.Up(one, 3); e != api.OK || !equal(got, three) {
		t.Errorf("up: %d bytes, %d", len(got.Data), e)
	}
	if got, e := lift.Down(three, 1); e != api.OK || !equal(got, one) {
		t.Errorf("down: %d bytes, %d", len(got.Data), e)
	}
}

// Promise 4.4: the names of the steps, in the order in which they are gone.
func TestSteps(t *testing.T) {
	want := map[[2]int]string{{1, 2}: "1to2", {2, 3}: "2to3", {1, 3}: "1to2 2to3", {3, 2}: "3to2", {2, 1}: "2to1", {3, 1}: "3to2 2to1"}
	all := append([]int{1, 2, 3}, oddVersions...)
	for _, from := range all {
		for _, to := range all {
			if got := strings.Join(lift.Steps(from, to), " "); got != want[[2]int{from, to}] {
				t.Errorf("Steps(%d, %d) = %q", from, to, got)
			}
		}
	}
}

// Promise 4.5: the least version is the lowest to which nothing is lost.
func TestLeast(t *testing.T) {
	seen := [4]int{}
	eachValid(func(r api.Record) {
		want := 1
		for want < r.V && lost(r, want) {
			want++
		}
		seen[want]++
		if v, e := lift.Least(r); v != want || e != api.OK {
			t.Fatalf("Least(%+v) = %d, %d, not %d", r, v, e, want)
		}
		if _, e := lift.Down(r, want); e != api.OK {
			t.Fatalf("%+v does not go down to its least version %d: %d", r, want, e)
		}
	})
	if seen[1] == 0 || seen[2] == 0 || seen[3] == 0 {
		t.Errorf("records by their least version: %v", seen)
	}
}

// Promise 4.6: what was lifted comes back; two that differ are never lifted to one.
func TestWhatWasLiftedComesBack(t *testing.T) {
	eachValid(func(r api.Record) {
		for to := r.V; to <= 3; to++ {
			up, e := lift.Up(r, to)
			back, e2 := lift.Down(up, r.V)
			if e != api.OK || e2 != api.OK || !equal(back, r) {
				t.Fatalf("%+v to %d and back: %+v, %d, %d", r, to, back, e, e2)
			}
		}
	})
	made := map[string]api.Record{}
	eachValid(func(r api.Record) {
		up, _ := lift.Up(r, 3)
		key := fmt.Sprint(r.V, tell(up))
		if other, twice := made[key]; twice {
			t.Fatalf("%+v and %+v are lifted to one", r, other)
		}
		made[key] = r
	})
}

// Promise 4.7: over which version a record goes does not matter.
func TestOverWhichVersion(t *testing.T) {
	eachValid(func(r api.Record) {
		if r.V == 1 {
			two, _ := lift.Up(r, 2)
			over, e := lift.Up(two, 3)
			at, e2 := lift.Up(r, 3)
			if e != api.OK || e2 != api.OK || !equal(over, at) {
				t.Fatalf("%+v: over 2 %+v, %d; at once %+v, %d", r, over, e, at, e2)
			}
		}
		if r.V == 3 {
			over, e := lift.Down(r, 2)
			if e == api.OK {
				over, e = lift.Down(over, 1)
			}
			at, e2 := lift.Down(r, 1)
			if e != e2 || !equal(over, at) {
				t.Fatalf("%+v: over 2 %+v, %d; at once %+v, %d", r, over, e, at, e2)
			}
		}
	})
}

// Promise 4.8: an answer is valid in its version, and of the same saga and kind.
func TestAnswersAreValid(t *testing.T) {
	eachValid(func(r api.Record) {
		for to := 1; to <= 3; to++ {
			for _, call := range []func(api.Record, int) (api.Record, api.Errno){lift.Up, lift.Down} {
				got, e := call(r, to)
				if e != api.OK {
					continue
				}
				if record.Check(got) != api.OK || got.V != to || got.Kind != r.Kind || got.Saga != r.Saga {
					t.Fatalf("%+v to %d is %+v", r, to, got)
				}
			}
		}
	})
}
