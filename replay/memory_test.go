package replay_test

import (
	"bytes"
	"math"
	"math/rand"
	"slices"
	"sync"
	"testing"

	"annals/api"
	"annals/record"
	"annals/replay"
)

// room is a list with all its spare room.
func room[T any](list []T) []T { return list[:cap(list)] }

// spare is a list with spare room behind it that is not zero.
func spare[T any](list []T, behind ...T) []T {
	whole := slices.Concat(list, behind)
	return whole[:len(list):len(whole)]
}

// scribble writes into a list of bytes, and behind its end.
func scribble(b []byte) {
	for i := range room(b) {
		room(b)[i] ^= 0x5a
	}
}

func scribbleAll(lists [][]byte) {
	for i := range room(lists) {
		scribble(room(lists)[i])
		room(lists)[i] = []byte("scribble")
	}
}

// scribbleSagas writes into all lists of sagas, and behind the last one.
func scribbleSagas(sagas []api.Saga) {
	for i, s := range room(sagas) {
		scribble(s.Input)
		scribble(s.Fail)
		scribbleAll(s.Outs)
		scribbleAll(s.Undos)
		room(sagas)[i] = api.Saga{ID: -1}
	}
}

// lists is all lists of bytes of sagas.
func lists(sagas []api.Saga) [][]byte {
	var out [][]byte
	for _, s := range sagas {
		out = slices.Concat(out, [][]byte{s.Input, s.Fail}, s.Outs, s.Undos)
	}
	return out
}

// rich is a legal log of three sagas, with data in all lists that a saga has; all data lie in one place, one over the other.
func rich() []api.Record {
	place := []byte("the data of all records")
	var out []api.Record
	add := func(r api.Record) {
		r.V = 3
		if slices.Contains(record.Fields(3, r.Kind), 11) {
			r.Data = place[len(out)%5 : 8+len(out)%7]
		}
		out = append(out, r)
	}
	for _, id := range []int{9, 2, 5} {
		add(api.Record{Kind: api.KBegin, Saga: id, Count: 4, Name: "buy"})
		for step := range 3 {
			add(api.Record{Kind: api.KStart, Saga: id, Step: step, Try: 1})
			add(api.Record{Kind: api.KDone, Saga: id, Step: step})
		}
		add(api.Record{Kind: api.KStart, Saga: id, Step: 3, Try: 1})
		add(api.Record{Kind: api.KFail, Saga: id, Step: 3, Last: 1})
		for _, step := range []int{2, 1} {
			add(api.Record{Kind: api.KUndo, Saga: id, Step: step, Try: 1})
			add(api.Record{Kind: api.KUndone, Saga: id, Step: step})
		}
	}
	return out
}

// answers is all ways to be told the sagas of the rich log.
func answers(t *testing.T) map[string]func() []api.Saga {
	recs := rich()
	_, s := strewn(t, rand.New(rand.NewSource(31)), recs)
	f := replay.NewFolder()
	for _, r := range recs {
		if e := f.Add(r); e != api.OK {
			t.Fatal(e)
		}
	}
	return map[string]func() []api.Saga{
		"Fold": func() []api.Saga {
			st, _ := replay.Fold(recs...)
			return st.Sagas
		},
		"State": func() []api.Saga { return f.State().Sagas },
		"Saga": func() []api.Saga {
			one, _ := f.Saga(2)
			return []api.Saga{one}
		},
		"Run": func() []api.Saga {
			st, _, err := replay.Run(s, 4)
			must(t, err)
			return st.Sagas
		},
		"One": func() []api.Saga {
			one, err := replay.One(s, 2)
			must(t, err)
			return []api.Saga{one}
		},
	}
}

// Promise 11.13: whoever writes into an answer, behind its end too, changes no other answer.
func TestAnswersAreNew(t *testing.T) {
	for name, call := range answers(t) {
		first, second := call(), call()
		want := tell(second)
		if tell(first) != want || len(lists(first)) < 7 {
			t.Fatalf("%s: %+v and %s", name, first, want)
		}
		scribbleSagas(first)
		if tell(second) != want || tell(call()) != want {
			t.Errorf("%s: writing into an answer changes another", name)
		}
	}
}

// Promise 11.13: no two lists of bytes of one answer share memory, spare room too.
func TestListsApart(t *testing.T) {
	for name, call := range answers(t) {
		want := lists(call())
		for n := range want {
			got := lists(call())
			scribble(got[n])
			for k := range got {
				if k != n && !bytes.Equal(got[k], want[k]) {
					t.Errorf("%s: writing into list %d changes list %d", name, n, k)
				}
			}
		}
	}
}

// Promise 11.13: a state that was told does not change when more is folded, nor does a saga.
func TestToldStatesStay(t *testing.T) {
	f := replay.NewFolder()
	var states []api.State
	var texts []string
	for _, r := range rich() {
		if e := f.Add(r); e != api.OK {
			t.Fatal(e)
		}
		one, _ := f.Saga(r.Saga)
		st := f.State()
		st.Sagas = append(st.Sagas, one)
		states, texts = append(states, st), append(texts, tell(st))
	}
	for i, st := range states {
		if tell(st) != texts[i] {
			t.Errorf("the state behind record %d became %+v, from %s", i, st, texts[i])
		}
	}
}

// Promise 11.13: what is handed in is not changed, spare room too, and not kept.
func TestRecordsStay(t *testing.T) {
	recs := rich()
	for i := range recs {
		recs[i].Data = spare(recs[i].Data, []byte("spare room")...)
	}
	recs = spare(recs, api.Record{V: 3, Kind: api.KEnd, Saga: 9, Data: []byte("behind")})
	sight := func() string {
		var datas [][]byte
		for _, r := range room(recs) {
			datas = append(datas, room(r.Data))
		}
		return tell(room(recs)) + tell(datas)
	}
	was := sight()
	f := replay.NewFolder()
	for _, r := range recs {
		f.Add(r)
	}
	st, at := replay.Fold(recs...)
	want := tell(st)
	if at != -1 || tell(f.State()) != want || sight() != was {
		t.Fatalf("%+v, %d", st, at)
	}
	for i := range room(recs) {
		scribble(room(recs)[i].Data)
		room(recs)[i] = api.Record{V: -1}
	}
	if tell(st) != want || tell(f.State()) != want {
		t.Error("writing into what was handed in changes an answer")
	}
}

// Promise 11.13: nothing of a store is changed: no file, no number, and the disk has no changing call.
func TestStoresStay(t *testing.T) {
	r := rand.New(rand.NewSource(32))
	for i := range 20 {
		recs := drawLog(r, 40, 1, 2, 3)
		if i%2 == 1 {
			recs = valid(spoiled(r, recs, 1, 2, 3))
		}
		d, s := strewn(t, r, recs)
		sight := func() string {
			list, err := s.Records()
			must(t, err)
			return tell(d.Files()) + tell(d.Crash(0)) + tell(d.Free()) + tell(s.Stat()) + tell(s.Segments()) + tell(list)
		}
		was := sight()
		d.Arm(0)
		for workers := range api.MaxWorkers + 2 {
			replay.Run(s, workers)
			replay.One(s, workers)
		}
		if d.Down() || sight() != was {
			t.Fatal("a store was changed")
		}
	}
}

// Promise 11.13: no call panics or runs on, whatever it is given; a Folder goes on behind whatever it refused.
func TestAnythingIsTaken(t *testing.T) {
	r := rand.New(rand.NewSource(33))
	pick := func() int { return []int{math.MinInt, -1, 0, 0, 1, 2, 7, 31, 1000, math.MaxInt}[r.Intn(10)] }
	f := replay.NewFolder()
	var book ledger
	for range 5000 {
		x := api.Record{V: r.Intn(5), Kind: r.Intn(9), Saga: pick(), Step: pick(), Try: pick(), At: pick(), Last: pick(), Code: pick(), Count: pick(), Pivot: pick(), Name: "x", Data: drawData(r)}
		if r.Intn(3) == 0 {
			x = drawAny(r, 1, 7, math.MaxInt)
		}
		want := book.refused(x)
		if e := f.Add(x); e != want {
			t.Fatalf("Add(%+v): %d, not %d", x, e, want)
		}
		if want == api.OK {
			book = append(book, x)
		}
		if _, at := replay.Fold(x, x); at < 0 || at > 1 { // no record may come twice
			t.Fatalf("Fold of %+v twice: %d", x, at)
		}
		f.Saga(pick())
	}
	if !same(f.State(), book.state()) {
		t.Errorf("%+v, not %+v", f.State(), book.state())
	}
}

// Promise 11.13: calls side by side, each on a Folder or a store of its own, answer as calls one behind the other.
func TestSideBySide(t *testing.T) {
	recs := rich()
	want, _ := fold(recs)
	var group sync.WaitGroup
	for i := range 8 {
		_, s := strewn(t, rand.New(rand.NewSource(int64(i))), recs)
		group.Go(func() {
			for range 20 {
				st, at := replay.Fold(recs...)
				run, place, err := replay.Run(s, 1+i)
				if err != nil || at != -1 || place != -1 || !same(st, want) || !same(run, want) {
					t.Errorf("worker %d: %d, %d, %v", i, at, place, err)
				}
			}
		})
	}
	group.Wait()
}
