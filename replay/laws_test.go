package replay_test

import (
	"math"
	"math/rand"
	"slices"
	"testing"

	"annals/api"
	"annals/lift"
	"annals/record"
	"annals/replay"
	"annals/saga"
)

// Promise 11.8: how a log goes on does not change what its first part folds to.
func TestFirstPart(t *testing.T) {
	r := rand.New(rand.NewSource(11))
	bad := 0
	for range 400 {
		recs := spoiled(r, drawLog(r, 30, 1, 2, 3), 1, 2, 3, 4)
		st, at := replay.Fold(recs...)
		if at == -1 {
			continue
		}
		bad++
		if got, place := replay.Fold(recs[:at]...); place != -1 || !same(got, st) {
			t.Fatalf("the records ahead of %d fold to %+v, %d, not %+v", at, got, place, st)
		}
		for _, rest := range [][]api.Record{nil, recs, recs[:at], drawLog(r, 10, 5, 6), {drawAny(r, 1, 2)}, {recB}} {
			if got, place := replay.Fold(slices.Concat(recs[:at+1], rest)...); place != at || !same(got, st) {
				t.Fatalf("another rest folds to %+v, %d, not %+v, %d", got, place, st, at)
			}
		}
	}
	if bad < 100 {
		t.Errorf("%d logs had a record that may not come", bad)
	}
}

// mingled is a log in another order, in which each saga's records keep theirs.
func mingled(r *rand.Rand, recs ledger) []api.Record {
	var own []ledger
	for _, id := range recs.ids() {
		own = append(own, recs.of(id))
	}
	var out []api.Record
	for len(out) < len(recs) {
		k := r.Intn(len(own))
		if len(own[k]) > 0 {
			out, own[k] = append(out, own[k][0]), own[k][1:]
		}
	}
	return out
}

// Promise 11.9: sagas do not touch one another.
func TestSagasApart(t *testing.T) {
	r := rand.New(rand.NewSource(12))
	for range 200 {
		recs := ledger(drawLog(r, 60, 9, math.MaxInt, 4, 1))
		st, at := replay.Fold(recs...)
		if at != -1 {
			t.Fatalf("a legal log folds to %d", at)
		}
		if got, at := replay.Fold(mingled(r, recs)...); at != -1 || !same(got, st) {
			t.Fatalf("in another order it folds to %+v, %d, not %+v", got, at, st)
		}
		for i, id := range recs.ids() {
			alone, at := replay.Fold(recs.of(id)...)
			if want := (api.State{Count: len(recs.of(id)), Sagas: st.Sagas[i : i+1]}); at != -1 || !same(alone, want) {
				t.Fatalf("alone, saga %d folds to %+v, %d, not %+v", id, alone, at, want)
			}
		}
	}
}

// lifted is a log with each valid record whose version is below one lifted to it.
func lifted(recs []api.Record, to int) []api.Record {
	var out []api.Record
	for _, r := range recs {
		if record.Check(r) == api.OK && r.V < to {
			r, _ = lift.Up(r, to)
		}
		out = append(out, r)
	}
	return out
}

// Promise 11.10: a log folds as the lifted log does, to the same state and the same place, legal or not.
func TestVersionsDoNotMatter(t *testing.T) {
	r := rand.New(rand.NewSource(13))
	for i := range 300 {
		recs := drawLog(r, 50, 1, 2, 3)
		if i%2 == 1 {
			recs = spoiled(r, recs, 1, 2, 3, 4)
		}
		want, place := replay.Fold(recs...)
		for to := 2; to <= 3; to++ {
			up := lifted(recs, to)
			if got, at := replay.Fold(up...); at != place || !same(got, want) {
				t.Fatalf("lifted to %d: %+v, %d, not %+v, %d", to, got, at, want, place)
			}
		}
	}
}

// Promise 11.11: what has ended may go.
func TestEndedMayGo(t *testing.T) {
	r := rand.New(rand.NewSource(14))
	gone := 0
	for range 200 {
		recs := drawLog(r, 70, 1, 2, 3, 4, 5)
		st, _ := replay.Fold(recs...)
		over := map[int]int{}
		var want api.State
		for _, one := range st.Sagas {
			if saga.Finished(one) {
				over[one.ID]++
				gone++
				continue
			}
			want.Sagas = append(want.Sagas, one)
		}
		var left []api.Record
		for _, x := range recs {
			if over[x.Saga] == 0 {
				left = append(left, x)
			}
		}
		want.Count = len(left)
		if got, at := replay.Fold(left...); at != -1 || !same(got, want) {
			t.Fatalf("without the ended ones it folds to %+v, %d, not %+v", got, at, want)
		}
	}
	if gone < 100 {
		t.Errorf("%d sagas had ended", gone)
	}
}

// Promise 11.12: stories of sagas with unlike ids, in any order, fold to just these sagas.
func TestStoriesBuildStates(t *testing.T) {
	r := rand.New(rand.NewSource(15))
	for range 150 {
		recs := drawLog(r, 80, 8, 3, math.MaxInt, 1, 1<<40)
		st, _ := replay.Fold(recs...)
		if len(st.Sagas) > 0 && r.Intn(3) == 0 { // the greatest count of tries
			s := &st.Sagas[r.Intn(len(st.Sagas))]
			if s.Phase == api.Running && s.Next < s.Count || s.Phase == api.Undoing && s.Next > 0 {
				s.Tries = api.MaxTry
			}
		}
		var all []api.Record
		for _, i := range r.Perm(len(st.Sagas)) {
			story, e := saga.Story(st.Sagas[i])
			if e != api.OK {
				t.Fatalf("%+v has no story: %d", st.Sagas[i], e)
			}
			all = append(all, story...)
		}
		st.Count = len(all)
		if got, at := replay.Fold(all...); at != -1 || !same(got, st) {
			t.Fatalf("the stories fold to %+v, %d, not %+v", got, at, st)
		}
	}
}
