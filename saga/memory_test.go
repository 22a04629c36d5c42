package saga_test

import (
	"bytes"
	"math"
	"math/rand"
	"slices"
	"strings"
	"sync"
	"testing"

	"annals/api"
	"annals/record"
	"annals/saga"
)

// room is a list with all its spare room.
func room[T any](list []T) []T { return list[:cap(list)] }

// spare is a list with spare room behind it that is not zero.
func spare[T any](list []T, behind ...T) []T {
	whole := slices.Concat(list, behind)
	return whole[:len(list):len(whole)]
}

// scribble writes into a list of bytes, and behind its end.
func scribble(b []byte) {
	for i := range room(b) {
		room(b)[i] ^= 0x5a
	}
}

func scribbleAll(lists [][]byte) {
	for i := range room(lists) {
		scribble(room(lists)[i])
		room(lists)[i] = []byte("scribble")
	}
}

// scribbleSaga writes into all lists of a saga.
func scribbleSaga(s api.Saga) {
	scribble(s.Input)
	scribble(s.Fail)
	scribbleAll(s.Outs)
	scribbleAll(s.Undos)
}

// roomy is a saga of the same values whose lists all have spare room that is not zero.
func roomy(s api.Saga) api.Saga {
	data := func(b []byte) []byte { return spare(b, []byte("spare room")...) }
	all := func(lists [][]byte) [][]byte {
		var out [][]byte
		for _, b := range lists {
			out = append(out, data(b))
		}
		return spare(out, data(nil), data([]byte("behind")), data([]byte("far behind")))
	}
	s.Input, s.Fail, s.Outs, s.Undos = data(s.Input), data(s.Fail), all(s.Outs), all(s.Undos)
	return s
}

// sight is all that a saga holds, with the spare room of its lists, as a text.
func sight(s api.Saga) string {
	all := func(lists [][]byte) [][]byte {
		var out [][]byte
		for _, b := range room(lists) {
			out = append(out, room(b))
		}
		return out
	}
	s.Input, s.Fail, s.Outs, s.Undos = room(s.Input), room(s.Fail), all(s.Outs), all(s.Undos)
	return tell(s)
}

// lists is all lists of bytes of a saga.
func lists(s api.Saga) [][]byte {
	return slices.Concat([][]byte{s.Input, s.Fail}, s.Outs, s.Undos)
}

// many is sagas with data in all their lists, each with a record that it takes, with data if the kind has it.
func many() ([]api.Saga, []api.Record) {
	run := api.Saga{ID: 7, Name: "buy", Count: 4, At: 3, Input: []byte("in"), Phase: api.Running, Next: 2, Outs: [][]byte{[]byte("out 0"), []byte("out 1")}}
	back := with(run, func(s *api.Saga) {
		s.Phase, s.FailStep, s.FailCode, s.Fail, s.Next, s.Undos = api.Undoing, 2, 5, []byte("fail"), 1, [][]byte{[]byte("undo 1")}
	})
	fly := func(s *api.Saga) { s.Flight, s.Tries = true, 2 }
	sagas := []api.Saga{
		run, with(run, fly), with(run, fly), with(run, fly), with(run, func(s *api.Saga) { s.Count = 2 }),
		back, with(back, fly), with(back, fly), with(back, func(s *api.Saga) { s.Next, s.Undos = 0, [][]byte{[]byte("a"), []byte("b")} }),
	}
	recs := []api.Record{
		{Kind: api.KStart, Step: 2, Try: 1}, {Kind: api.KDone, Step: 2, Data: []byte("data")}, {Kind: api.KFail, Step: 2, Data: []byte("data")},
		{Kind: api.KFail, Step: 2, Last: 1, Data: []byte("data")}, {Kind: api.KEnd},
		{Kind: api.KUndo, Try: 1}, {Kind: api.KUndone, Data: []byte("data")}, {Kind: api.KFail, Data: []byte("data")}, {Kind: api.KEnd},
	}
	for i := range recs {
		recs[i] = of(recs[i])
	}
	return sagas, recs
}

// Promises 10.8, 10.13: Apply and Clone change nothing that is handed in, spare room too, keep none of it, and share none of it with their answers.
func TestSagasStay(t *testing.T) {
	sagas, recs := many()
	for i := range sagas {
		calls := []func(s api.Saga, r api.Record) api.Saga{
			func(s api.Saga, r api.Record) api.Saga {
				out, e := saga.Apply(s, r)
				if e != api.OK {
					t.Fatalf("row %d: %d", i, e)
				}
				return out
			},
			func(s api.Saga, r api.Record) api.Saga { return saga.Clone(s) },
		}
		for k, call := range calls {
			s, r := roomy(sagas[i]), recs[i]
			r.Data = spare(r.Data, []byte("spare room")...)
			was, wasData := sight(s), string(room(r.Data))
			first, second := call(s, r), call(s, r)
			want := tell(second)
			if tell(first) != want {
				t.Errorf("row %d, call %d: two answers: %s and %s", i, k, tell(first), want)
			}
			saga.Check(s)
			saga.Finished(s)
			saga.Allowed(s)
			saga.Pending(s)
			saga.Apply(s, api.Record{V: 3, Kind: api.KStart, Saga: 9, Try: 1})
			scribbleSaga(first)
			if sight(s) != was || string(room(r.Data)) != wasData || tell(second) != want {
				t.Errorf("row %d, call %d: writing into an answer changes another thing", i, k)
			}
			scribbleSaga(s)
			scribble(r.Data)
			if tell(second) != want {
				t.Errorf("row %d, call %d: writing into what was handed in changes the answer", i, k)
			}
		}
	}
}

// Promise 10.13: no two lists of one answer share memory, spare room too.
func TestListsApart(t *testing.T) {
	sagas, recs := many()
	shared := func(s api.Saga) api.Saga { // all lists of what is handed in lie in one place
		one := []byte("in one place")
		s.Input, s.Outs, s.Undos = one[:2], slices.Clone(s.Outs), slices.Clone(s.Undos)
		for i := range s.Outs {
			s.Outs[i] = one[i:5]
		}
		for i := range s.Undos {
			s.Undos[i] = one[i:6]
		}
		if len(s.Fail) > 0 {
			s.Fail = one
		}
		return s
	}
	for i := range sagas {
		for call := range 2 {
			answer := func() api.Saga {
				if call == 0 {
					return saga.Clone(shared(sagas[i]))
				}
				out, _ := saga.Apply(shared(sagas[i]), recs[i])
				return out
			}
			want := lists(answer())
			for n := range want {
				got := lists(answer())
				scribble(got[n])
				for k := range got {
					if k != n && !bytes.Equal(got[k], want[k]) {
						t.Errorf("row %d: writing into list %d changes list %d", i, n, k)
					}
				}
			}
			one := answer()
			for _, b := range room(one.Outs)[len(one.Outs):] {
				scribble(b)
			}
			for k := range room(one.Outs)[len(one.Outs):] {
				room(one.Outs)[len(one.Outs)+k] = []byte("scribble")
			}
			if !sameLists(lists(one), want) {
				t.Errorf("row %d: writing behind the outs changes a list", i)
			}
		}
	}
}

// Promise 10.13: Begin does not keep the record's data, nor share it with its answer.
func TestBeginIsNew(t *testing.T) {
	for v := 1; v <= 3; v++ {
		r := api.Record{V: v, Kind: api.KBegin, Saga: 7, Count: 2, Name: "buy", Data: spare([]byte("in"), []byte("spare")...)}
		if v == 1 {
			r.Count, r.Name, r.Step = 0, "", 2
		}
		was := string(room(r.Data))
		first, _ := saga.Begin(r)
		second, e := saga.Begin(r)
		want := tell(second)
		scribbleSaga(first)
		if e != api.OK || string(room(r.Data)) != was || tell(second) != want {
			t.Errorf("version %d: writing into an answer changes another thing", v)
		}
		scribble(r.Data)
		if tell(second) != want {
			t.Errorf("version %d: writing into the record changes the answer", v)
		}
	}
}

// Promise 10.13: the records of a story share no memory with the saga, with another story, or with one another.
func TestStoryIsNew(t *testing.T) {
	sagas, _ := many()
	for i := range sagas {
		s := roomy(sagas[i])
		was := sight(s)
		first, e := saga.Story(s)
		second, _ := saga.Story(s)
		want := story(sagas[i])
		if e != api.OK || !sameRecs(first, want) {
			t.Fatalf("row %d: %d", i, e)
		}
		for n := range first {
			scribble(first[n].Data)
			for k := n + 1; k < len(first); k++ {
				if !record.Same(first[k], want[k]) {
					t.Errorf("row %d: writing into record %d changes record %d", i, n, k)
				}
			}
		}
		for k := range room(first) {
			scribble(room(first)[k].Data)
			room(first)[k] = api.Record{V: -1}
		}
		if sight(s) != was || !sameRecs(second, want) {
			t.Errorf("row %d: writing into a story changes another thing", i)
		}
		scribbleSaga(s)
		if !sameRecs(second, want) {
			t.Errorf("row %d: writing into the saga changes its story", i)
		}
	}
}

// Promise 10.13: whoever writes into what Allowed and Pending tell changes no later answer.
func TestNumbersAreNew(t *testing.T) {
	sagas, _ := many()
	for i, s := range sagas {
		for k, call := range []func(api.Saga) []int{saga.Allowed, saga.Pending} {
			first, second := call(s), call(s)
			want := slices.Clone(second)
			for n := range room(first) {
				room(first)[n] = -9
			}
			if !slices.Equal(second, want) || !slices.Equal(call(s), want) {
				t.Errorf("row %d, call %d: writing into an answer changes another one", i, k)
			}
		}
	}
}

// Promise 10.8: the clone of any saga, valid or not, has the same values.
func TestClone(t *testing.T) {
	r := rand.New(rand.NewSource(1))
	sagas := append(broken(), s0, s1, s2, s3, s4, s5, s6, s7, s8, u)
	for range 500 {
		sagas = append(sagas, drawOdd(r))
	}
	for _, s := range sagas {
		in := roomy(s)
		was := sight(in)
		got := saga.Clone(in)
		if !equal(got, s) {
			t.Fatalf("Clone(%.300s) = %.300s", tell(s), tell(got))
		}
		scribbleSaga(got)
		if sight(in) != was {
			t.Fatalf("writing into the clone of %.300s changes it", tell(s))
		}
	}
}

// drawOdd is a saga of any values at all.
func drawOdd(r *rand.Rand) api.Saga {
	pick := func() int {
		odd := []int{math.MinInt, -1, 0, 0, 0, 1, 1, 2, 3, 31, 32, 33, 1000, 1001, math.MaxInt, int(r.Uint64())}
		return odd[r.Intn(len(odd))]
	}
	data := func() []byte { return make([]byte, r.Intn(3)) }
	all := func() [][]byte {
		var out [][]byte
		for range r.Intn(4) {
			out = append(out, data())
		}
		return out
	}
	names := []string{"", "buy", "\xff", "2", strings.Repeat("x", 49)}
	return api.Saga{
		ID: pick(), Name: names[r.Intn(len(names))], Count: pick(), Pivot: pick(), Begun: pick(), At: pick(), Input: data(),
		Phase: r.Intn(7) - 1, Next: pick(), Flight: r.Intn(2) == 0, Tries: pick(), Outs: all(), Undos: all(),
		FailStep: pick(), FailCode: pick(), Fail: data(),
	}
}

// Promise 10.13: no call panics or runs on, whatever it is given; beside an error the answer is zero.
func TestAnythingIsTaken(t *testing.T) {
	r := rand.New(rand.NewSource(2))
	pick := func() int { return []int{math.MinInt, -1, 0, 0, 1, 2, 7, 31, 1000, math.MaxInt}[r.Intn(10)] }
	base := []api.Saga{s0, s1, s2, s3, s4, s5, s6, s7, s8, u}
	for i := range 20000 {
		s := drawOdd(r)
		if i%2 == 0 {
			s = base[r.Intn(len(base))]
			*[]*int{&s.ID, &s.Count, &s.Pivot, &s.Begun, &s.At, &s.Phase, &s.Next, &s.Tries, &s.FailStep, &s.FailCode}[r.Intn(10)] = pick()
		}
		x := api.Record{V: r.Intn(5), Kind: r.Intn(9), Saga: pick(), Step: pick(), Try: pick(), At: pick(), Last: pick(), Code: pick(), Count: pick(), Pivot: pick(), Name: "x", Data: []byte("x")}
		if i%3 == 0 {
			x = draw(r, s, 1+r.Intn(7))
		}
		got, e := saga.Apply(s, x)
		first, e2 := saga.Begin(x)
		recs, e3 := saga.Story(s)
		if e != api.OK && !equal(got, api.Saga{}) || e2 != api.OK && !equal(first, api.Saga{}) || e3 != api.OK && len(recs) != 0 {
			t.Fatalf("%s, %+v: %s, %d, %s, %d, %d records, %d", tell(s), x, tell(got), e, tell(first), e2, len(recs), e3)
		}
		if bad := saga.Check(s) != api.OK; bad != (e3 == api.ErrSaga) || bad != (e == api.ErrSaga) || bad && (saga.Finished(s) || len(saga.Allowed(s))+len(saga.Pending(s)) > 0) {
			t.Fatalf("%s: %d, %d, %d", tell(s), saga.Check(s), e, e3)
		}
	}
	great := with(s0, func(s *api.Saga) {
		s.Name, s.Outs, s.Undos = strings.Repeat("x", 1<<24), make([][]byte, 1<<20), make([][]byte, 1<<20)
		s.Next, s.FailStep = 1<<20, 1<<20
	})
	if saga.Check(great) != api.ErrSaga || !equal(saga.Clone(great), great) {
		t.Error("a great saga")
	}
}

// Promise 10.13: calls side by side answer as calls one behind the other.
func TestSideBySide(t *testing.T) {
	sagas, recs := many()
	var group sync.WaitGroup
	for i := range 8 {
		group.Go(func() {
			for range 50 {
				for k, s := range sagas {
					next, e := saga.Apply(s, recs[k])
					told, e2 := saga.Story(next)
					if back, e3 := play(told); e != api.OK || e2 != api.OK || e3 != api.OK || !equal(back, next) {
						t.Errorf("worker %d, row %d: %d, %d, %d", i, k, e, e2, e3)
					}
				}
			}
		})
	}
	group.Wait()
}
