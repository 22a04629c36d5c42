package replay_test

import (
	"fmt"
	"math/rand"
	"slices"
	"testing"

	"annals/api"
	"annals/lift"
	"annals/record"
	"annals/saga"
)

// tell is all that an answer holds, as a text; nil and empty lists are the same.
func tell(v any) string { return fmt.Sprintf("%+v", v) }

// same tells whether two answers hold the same.
func same[T any](a, b T) bool { return tell(a) == tell(b) }

// A ledger is the second reading of the chapter: the records that came, in one list. Where a saga stands is reckoned from all its records each time anew, never carried on.
type ledger []api.Record

// of is the records of one saga.
func (l ledger) of(id int) ledger {
	var out ledger
	for _, r := range l {
		if r.Saga == id {
			out = append(out, r)
		}
	}
	return out
}

// ids is the ids of all sagas, rising.
func (l ledger) ids() []int {
	var out []int
	for _, r := range l {
		out = append(out, r.Saga)
	}
	slices.Sort(out)
	return slices.Compact(out)
}

// saga is the saga to which a ledger of one saga leads.
func (l ledger) saga() api.Saga {
	s, _ := saga.Begin(l[0])
	for _, r := range l[1:] {
		s, _ = saga.Apply(s, r)
	}
	return s
}

// refused is why a record may not come behind those of the ledger; OK, if it may.
func (l ledger) refused(r api.Record) api.Errno {
	if e := record.Check(r); e != api.OK {
		return e
	}
	own := l.of(r.Saga)
	if len(own) == 0 {
		_, e := saga.Begin(r)
		return e
	}
	_, e := saga.Apply(own.saga(), r)
	return e
}

func (l ledger) state() api.State {
	out := api.State{Count: len(l)}
	for _, id := range l.ids() {
		out.Sagas = append(out.Sagas, l.of(id).saga())
	}
	return out
}

// fold is the second reading of Fold.
func fold(recs []api.Record) (api.State, int) {
	for i, r := range recs {
		if ledger(recs[:i]).refused(r) != api.OK {
			return ledger(recs[:i]).state(), i
		}
	}
	return ledger(recs).state(), -1
}

// drawData is up to five bytes.
func drawData(r *rand.Rand) []byte {
	b := make([]byte, r.Intn(6))
	r.Read(b)
	return b
}

// drawBegin is a begin of version 3.
func drawBegin(r *rand.Rand, id int) api.Record {
	n := 1 + r.Intn(4)
	return api.Record{V: 3, Kind: api.KBegin, Saga: id, At: drawAt(r), Count: n, Pivot: r.Intn(2) * r.Intn(n+1), Name: []string{"buy", "bücher", "x-2"}[r.Intn(3)], Data: drawInput(r)}
}

// drawAt and drawInput are often what version 1 can say.
func drawAt(r *rand.Rand) int { return r.Intn(2) * r.Intn(9) }

func drawInput(r *rand.Rand) []byte {
	if r.Intn(2) == 0 {
		return nil
	}
	return drawData(r)
}

// drawNext is a record of version 3 that may come next; the saga has not ended.
func drawNext(r *rand.Rand, s api.Saga) api.Record {
	kinds := saga.Allowed(s)
	out := api.Record{V: 3, Kind: kinds[r.Intn(len(kinds))], Saga: s.ID, At: drawAt(r), Step: s.Next}
	if s.Phase == api.Undoing {
		out.Step--
	}
	switch out.Kind {
	case api.KStart, api.KUndo:
		out.Try = min(s.Tries+1, api.MaxTry)
	case api.KDone, api.KUndone:
		out.Data = drawData(r)
	case api.KFail:
		out.Data, out.Code = drawData(r), r.Intn(2)*(r.Intn(9)-4)
		if s.Phase == api.Running && (s.Pivot == 0 || s.Next < s.Pivot) {
			out.Last = r.Intn(2)
		}
	case api.KEnd:
		out.Step, out.Code = 0, r.Intn(2)*s.Phase // 1 of one that runs, 2 of one that goes back
	}
	return out
}

// lowered is a record in any version that can say what it says.
func lowered(r *rand.Rand, rec api.Record) api.Record {
	low, e := lift.Down(rec, 1+r.Intn(3))
	if e != api.OK {
		return rec
	}
	return low
}

// drawLog is a legal log of up to n records of mingled sagas with these ids, of all versions.
func drawLog(r *rand.Rand, n int, ids ...int) []api.Record {
	sagas := map[int]api.Saga{}
	var out []api.Record
	for range n {
		id := ids[r.Intn(len(ids))]
		s, there := sagas[id]
		if saga.Finished(s) {
			continue
		}
		rec, e := drawBegin(r, id), api.OK
		if there {
			rec = drawNext(r, s)
		}
		rec = lowered(r, rec)
		if there {
			s, e = saga.Apply(s, rec)
		} else {
			s, e = saga.Begin(rec)
		}
		if e != api.OK {
			panic(fmt.Sprintf("%+v is refused: %d", rec, e))
		}
		sagas[id] = s
		out = append(out, rec)
	}
	return out
}

// drawAny is a record of any values that are near to good ones; seldom a valid one.
func drawAny(r *rand.Rand, ids ...int) api.Record {
	out := api.Record{V: 1 + r.Intn(3), Kind: 1 + r.Intn(7), Saga: ids[r.Intn(len(ids))], Step: r.Intn(3)}
	switch r.Intn(12) {
	case 0:
		out.V = r.Intn(6) - 1
	case 1:
		out.Kind = r.Intn(10) - 1
	case 2:
		out.Saga = r.Intn(3) - 1
	case 3:
		out.Data = make([]byte, api.MaxData+r.Intn(2))
	case 4:
		out.Try = 1 + r.Intn(2)
	case 5:
		return drawBegin(r, out.Saga)
	}
	return out
}

// spoiled is a log into which a record is put that may be of any values, or one of its own again.
func spoiled(r *rand.Rand, recs []api.Record, ids ...int) []api.Record {
	wrong := drawAny(r, ids...)
	if r.Intn(3) == 0 && len(recs) > 0 {
		wrong = recs[r.Intn(len(recs))]
	}
	return slices.Insert(slices.Clone(recs), r.Intn(len(recs)+1), wrong)
}

// The logs that the tests draw are what they are meant to be: legal, with sagas that end either way, and with records of all versions.
func TestDrawnLogs(t *testing.T) {
	r := rand.New(rand.NewSource(1))
	versions, phases, bad := map[int]int{}, map[int]int{}, 0
	for range 200 {
		recs := drawLog(r, 60, 3, 1, 2)
		st, at := fold(recs)
		if at != -1 {
			t.Fatalf("record %d of a legal log may not come", at)
		}
		for _, s := range st.Sagas {
			phases[s.Phase]++
		}
		for _, x := range recs {
			versions[x.V]++
		}
		if _, at := fold(spoiled(r, recs, 1, 2, 3, 4)); at != -1 {
			bad++
		}
	}
	for _, n := range []int{versions[1], versions[2], versions[3], phases[1], phases[2], phases[3], phases[4], bad} {
		if n < 10 {
			t.Errorf("versions %v, phases %v, %d spoiled", versions, phases, bad)
		}
	}
}
