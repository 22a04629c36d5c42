package replay_test

import (
	"math"
	"math/rand"
	"slices"
	"strings"
	"testing"

	"annals/api"
	"annals/replay"
	"annals/saga"
)

// The chapter's own records.
var (
	recB = api.Record{V: 1, Kind: api.KBegin, Saga: 7, Step: 1, Data: []byte("buy")}
	recS = api.Record{V: 2, Kind: api.KStart, Saga: 7, Try: 1, At: 4}
	recD = api.Record{V: 3, Kind: api.KDone, Saga: 7, At: 5, Data: []byte("ok")}
	recE = api.Record{V: 2, Kind: api.KEnd, Saga: 7, At: 9}
)

// The states behind them.
var (
	none  = api.State{}
	begun = api.State{Count: 1, Sagas: []api.Saga{{ID: 7, Name: "buy", Count: 1, Phase: api.Running}}}
	flown = api.State{Count: 2, Sagas: []api.Saga{{ID: 7, Name: "buy", Count: 1, At: 4, Phase: api.Running, Flight: true, Tries: 1}}}
	done  = api.State{Count: 3, Sagas: []api.Saga{{ID: 7, Name: "buy", Count: 1, At: 5, Phase: api.Running, Next: 1, Outs: [][]byte{[]byte("ok")}}}}
	whole = api.State{Count: 4, Sagas: []api.Saga{{ID: 7, Name: "buy", Count: 1, At: 9, Phase: api.Whole, Next: 1, Outs: [][]byte{[]byte("ok")}}}}
)

// of is a record as one of another saga.
func of(id int, r api.Record) api.Record {
	r.Saga = id
	return r
}

// Promises 11.1, 11.2: the state behind the records, up to the first that may not come.
func TestFold(t *testing.T) {
	long := of(9, recD)
	long.Data = make([]byte, api.MaxData+1)
	two := func(first, second api.State) api.State { // the sagas of both
		return api.State{Count: first.Count + second.Count, Sagas: slices.Concat(first.Sagas, second.Sagas)}
	}
	low := api.State{Count: 1, Sagas: []api.Saga{begun.Sagas[0]}}
	low.Sagas[0].ID = 1
	high := api.State{Count: 1, Sagas: []api.Saga{begun.Sagas[0]}}
	high.Sagas[0].ID = math.MaxInt
	for i, row := range []struct {
		recs []api.Record
		want api.State
		at   int
	}{
		{nil, none, -1},
		{[]api.Record{}, none, -1},
		{[]api.Record{recB}, begun, -1},
		{[]api.Record{recB, recS}, flown, -1},
		{[]api.Record{recB, recS, recD}, done, -1},
		{[]api.Record{recB, recS, recD, recE}, whole, -1},
		{[]api.Record{recB, recD, recS}, begun, 1},
		{[]api.Record{recS}, none, 0},
		{[]api.Record{recS, recB}, none, 0}, // what comes behind is not looked at
		{[]api.Record{recB, recB}, begun, 1},
		{[]api.Record{recB, recB, recS, recD}, begun, 1},
		{[]api.Record{recB, recS, recS, recD}, flown, 2},
		{[]api.Record{recB, recS, recD, recE, recE}, whole, 4},
		{[]api.Record{recB, recS, recD, recE, recB}, whole, 4}, // an id is not used again
		{[]api.Record{recB, {}, recS}, begun, 1},
		{[]api.Record{recB, {V: 1, Kind: 9}}, begun, 1},
		{[]api.Record{recB, {V: 4, Kind: 2, Saga: 7}}, begun, 1},
		{[]api.Record{recB, long}, begun, 1},
		{[]api.Record{recB, of(8, recS)}, begun, 1},
		{[]api.Record{recB, of(1, recB)}, two(low, begun), -1},
		{[]api.Record{of(math.MaxInt, recB), recB, recS, recD, recE, of(1, recB)}, two(low, two(whole, high)), -1},
		{[]api.Record{of(math.MaxInt, recB), recB, of(math.MinInt, recB)}, two(begun, high), 2},
		{[]api.Record{recB, of(1, recB), of(0, recB)}, two(low, begun), 2},
	} {
		if got, at := replay.Fold(row.recs...); at != row.at || !same(got, row.want) {
			t.Errorf("row %d: %+v, %d, not %+v, %d", i, got, at, row.want, row.at)
		}
	}
}

// Promises 11.1, 11.2: Fold is its second reading, of legal logs and of others.
func TestFoldIsTheSecondReading(t *testing.T) {
	r := rand.New(rand.NewSource(2))
	for i := range 300 {
		recs := drawLog(r, 40, 5, 1, math.MaxInt, 3)
		if i%2 == 1 {
			recs = spoiled(r, recs, 1, 3, 4, math.MaxInt)
		}
		want, place := fold(recs)
		if got, at := replay.Fold(recs...); at != place || !same(got, want) {
			t.Fatalf("Fold(%+v): %+v, %d, not %+v, %d", recs, got, at, want, place)
		}
	}
}

// Promises 11.3 to 11.5: what a Folder answers to record after record.
func TestFolder(t *testing.T) {
	f := replay.NewFolder()
	if f == nil || !same(f.State(), none) {
		t.Fatal("a new Folder has folded something")
	}
	longData := make([]byte, api.MaxData+1)
	for i, row := range []struct {
		r    api.Record
		e    api.Errno
		want api.State
	}{
		{recS, api.ErrBegin, none},
		{recE, api.ErrBegin, none},
		{api.Record{V: 1, Kind: 9}, api.ErrKind, none},
		{api.Record{V: 9, Kind: 9}, api.ErrVersion, none},
		{of(0, recB), api.ErrID, none},
		{of(-7, recS), api.ErrID, none},
		{api.Record{V: 3, Kind: api.KStart, Saga: 7}, api.ErrBound, none}, // no try: ahead of its being no begin
		{recB, api.OK, begun},
		{recB, api.ErrBegin, begun},
		{api.Record{V: 3, Kind: api.KBegin, Saga: 7}, api.ErrBound, begun}, // what record.Check says comes ahead of its being one too many
		{recD, api.ErrFlight, begun},
		{api.Record{V: 3, Kind: api.KDone, Saga: 7, Data: longData}, api.ErrData, begun},
		{api.Record{V: 3, Kind: api.KDone, Saga: 7, Try: 1}, api.ErrExtra, begun},
		{api.Record{V: 3, Kind: api.KUndo, Saga: 7, Try: 1}, api.ErrPhase, begun},
		{api.Record{V: 3, Kind: api.KStart, Saga: 7, Step: 1, Try: 1}, api.ErrStep, begun},
		{api.Record{V: 3, Kind: api.KStart, Saga: 7, Try: 2}, api.ErrTry, begun},
		{of(8, recD), api.ErrBegin, begun},
		{recS, api.OK, flown},
		{recE, api.ErrFlight, flown},
		{api.Record{V: 3, Kind: api.KBegin, Saga: 8, Count: 1, Name: "2"}, api.ErrLabel, flown},
		{recD, api.OK, done},
		{api.Record{V: 3, Kind: api.KEnd, Saga: 7, Code: 2}, api.ErrCode, done},
		{recE, api.OK, whole},
		{recB, api.ErrBegin, whole},
		{recE, api.ErrEnded, whole},
	} {
		if e := f.Add(row.r); e != row.e {
			t.Errorf("row %d: %d, not %d", i, e, row.e)
		}
		if got := f.State(); !same(got, row.want) {
			t.Errorf("row %d: %+v, not %+v", i, got, row.want)
		}
	}
	pivot := api.Record{V: 3, Kind: api.KBegin, Saga: 3, Count: 2, Pivot: 1, Name: "buy"}
	for i, r := range []api.Record{pivot, of(3, recS), of(3, recD), {V: 3, Kind: api.KStart, Saga: 3, Step: 1, Try: 1}} {
		if e := f.Add(r); e != api.OK {
			t.Fatalf("record %d: %d", i, e)
		}
	}
	if e := f.Add(api.Record{V: 1, Kind: api.KFail, Saga: 3, Step: 1}); e != api.ErrPivot {
		t.Errorf("a failure behind the pivot: %d", e)
	}
}

// Promise 11.5: Saga tells one saga of the state, and no other.
func TestFolderSaga(t *testing.T) {
	f := replay.NewFolder()
	for _, r := range []api.Record{recB, recD, recS, of(math.MaxInt, recB), of(2, recB), of(2, recD)} {
		f.Add(r)
	}
	st := f.State()
	if st.Count != 4 || len(st.Sagas) != 3 {
		t.Fatalf("%+v", st)
	}
	for i, id := range []int{2, 7, math.MaxInt} {
		if got, e := f.Saga(id); e != api.OK || got.ID != id || !same(got, st.Sagas[i]) {
			t.Errorf("Saga(%d): %+v, %d", id, got, e)
		}
	}
	for _, id := range []int{math.MinInt, -7, -1, 0, 1, 3, 8, math.MaxInt - 1} {
		if got, e := f.Saga(id); e != api.ErrNoSaga || !same(got, api.Saga{}) {
			t.Errorf("Saga(%d): %+v, %d", id, got, e)
		}
		if _, e := replay.NewFolder().Saga(id); e != api.ErrNoSaga {
			t.Errorf("Saga(%d) of a new Folder: %d", id, e)
		}
	}
}

// Promises 11.3 to 11.5: whatever comes, two Folders answer, each for itself, as the second reading does of the records that each of them took.
func TestFoldersAreTheSecondReading(t *testing.T) {
	r := rand.New(rand.NewSource(3))
	taken, refusals := 0, map[api.Errno]int{}
	for range 60 {
		folders := [2]*replay.Folder{replay.NewFolder(), replay.NewFolder()}
		var books [2]ledger
		for range 60 {
			k := r.Intn(2)
			rec := drawAny(r, 1, 2, 3)
			if own := books[k].of(rec.Saga); len(own) > 0 && r.Intn(4) > 0 && !saga.Finished(own.saga()) {
				rec = lowered(r, drawNext(r, own.saga()))
			}
			want := books[k].refused(rec)
			if e := folders[k].Add(rec); e != want {
				t.Fatalf("Add(%+v) behind %+v: %d, not %d", rec, books[k], e, want)
			}
			if want == api.OK {
				books[k] = append(books[k], rec)
				taken++
			}
			refusals[want]++
			for i := range folders {
				if !same(folders[i].State(), books[i].state()) {
					t.Fatalf("folder %d: %+v, not %+v", i, folders[i].State(), books[i].state())
				}
			}
			for _, one := range books[k].state().Sagas {
				if got, e := folders[k].Saga(one.ID); e != api.OK || !same(got, one) {
					t.Fatalf("Saga(%d): %+v, %d, not %+v", one.ID, got, e, one)
				}
			}
		}
	}
	if taken < 500 || len(refusals) < 12 {
		t.Errorf("%d records were taken; of the answers there were %v", taken, refusals)
	}
}

// Promise 11.2: a saga of the greatest values that may be is folded.
func TestGreatSaga(t *testing.T) {
	data := []byte(strings.Repeat("d", api.MaxData))
	recs := []api.Record{{V: 3, Kind: api.KBegin, Saga: api.MaxID, At: api.MaxID, Count: api.MaxSteps, Pivot: api.MaxSteps, Name: strings.Repeat("ü", api.MaxName), Data: data}}
	add := func(r api.Record) {
		r.V, r.Saga, r.At = 3, api.MaxID, api.MaxID
		recs = append(recs, r)
	}
	for i := range api.MaxSteps - 1 {
		add(api.Record{Kind: api.KStart, Step: i, Try: 1})
		add(api.Record{Kind: api.KDone, Step: i, Data: data})
	}
	for try := range api.MaxTry + 2 {
		add(api.Record{Kind: api.KStart, Step: api.MaxSteps - 1, Try: min(try+1, api.MaxTry)})
		add(api.Record{Kind: api.KFail, Step: api.MaxSteps - 1, Data: data})
	}
	st, at := replay.Fold(recs...)
	if at != -1 || st.Count != len(recs) || len(st.Sagas) != 1 {
		t.Fatalf("%d of %d, %d sagas, %d", st.Count, len(recs), len(st.Sagas), at)
	}
	if one := st.Sagas[0]; one.Tries != api.MaxTry || one.Next != api.MaxSteps-1 || len(one.Outs) != api.MaxSteps-1 || string(one.Outs[0]) != string(data) {
		t.Errorf("%.300s", tell(one))
	}
}
