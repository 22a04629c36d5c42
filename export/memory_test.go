package export_test

import (
	"bytes"
	"math/rand"
	"slices"
	"sync"
	"testing"

	"annals/api"
	"annals/export"
)

// room is a list with all its spare room.
func room[T any](list []T) []T { return list[:cap(list)] }

// spare is a list with spare room behind it that is not zero.
func spare[T any](list []T, behind ...T) []T {
	full := slices.Concat(list, behind)
	return full[:len(list):len(full)]
}

// roomyBytes is the same bytes with spare room behind them.
func roomyBytes(b []byte) []byte { return spare(b, []byte("spare\xff")...) }

func roomyLists(lists [][]byte) [][]byte {
	var out [][]byte
	for _, b := range lists {
		out = append(out, roomyBytes(b))
	}
	return spare(out, []byte("spare list"), nil)
}

// roomyState is the same state with spare room behind all its lists.
func roomyState(st api.State) api.State {
	var sagas []api.Saga
	for _, s := range st.Sagas {
		s.Input, s.Fail, s.Outs, s.Undos = roomyBytes(s.Input), roomyBytes(s.Fail), roomyLists(s.Outs), roomyLists(s.Undos)
		sagas = append(sagas, s)
	}
	return api.State{Count: st.Count, Sagas: spare(sagas, back())}
}

func roomyRecords(recs []api.Record) []api.Record {
	var out []api.Record
	for _, r := range recs {
		r.Data = roomyBytes(r.Data)
		out = append(out, r)
	}
	return spare(out, api.Record{V: 77})
}

// sight is all that a state holds, the spare room of its lists too, as a text.
func sight(st api.State) string {
	var sagas []api.Saga
	for _, s := range room(st.Sagas) {
		lists := func(l [][]byte) [][]byte {
			var out [][]byte
			for _, b := range room(l) {
				out = append(out, room(b))
			}
			return out
		}
		s.Input, s.Fail, s.Outs, s.Undos = room(s.Input), room(s.Fail), lists(s.Outs), lists(s.Undos)
		sagas = append(sagas, s)
	}
	return tell(api.State{Count: st.Count, Sagas: sagas})
}

// sightOf is the same of records.
func sightOf(recs []api.Record) string {
	var out []api.Record
	for _, r := range room(recs) {
		r.Data = room(r.Data)
		out = append(out, r)
	}
	return tell(out)
}

// dataOf is all byte strings of a state.
func dataOf(st api.State) [][]byte {
	var out [][]byte
	for _, s := range st.Sagas {
		out = slices.Concat(out, [][]byte{s.Input, s.Fail}, s.Outs, s.Undos)
	}
	return out
}

// listsOf is all lists of byte strings of a state.
func listsOf(st api.State) [][][]byte {
	var out [][][]byte
	for _, s := range st.Sagas {
		out = append(out, s.Outs, s.Undos)
	}
	return out
}

// apart tells whether no two lists share memory, their spare room counted.
func apart[T any](lists ...[]T) bool {
	seen, want := map[*T]struct{}{}, 0
	for _, l := range lists {
		for i := range room(l) {
			seen[&room(l)[i]] = struct{}{}
		}
		want += cap(l)
	}
	return len(seen) == want
}

// scribble writes into a list, and behind its end.
func scribble[T any](list []T, what T) {
	for i := range room(list) {
		room(list)[i] = what
	}
}

// scribbleState writes into all lists of a state.
func scribbleState(st api.State) {
	for _, b := range dataOf(st) {
		scribble(b, '#')
	}
	for _, l := range listsOf(st) {
		scribble(l, []byte("scribbled"))
	}
	scribble(st.Sagas, api.Saga{ID: -7})
}

// Promise 14.8: nothing that is handed in is changed, nor the spare room behind it, be the call refused or not; and what is read does not hang on the text any more.
func TestGivenStaysAsItIs(t *testing.T) {
	t.Parallel()
	rnd := rand.New(rand.NewSource(14081))
	for range 500 {
		st, recs := roomyState(anyState(rnd)), roomyRecords(anyRecords(rnd))
		if rnd.Intn(3) == 0 && len(st.Sagas) > 0 && len(recs) > 0 {
			st.Sagas[rnd.Intn(len(st.Sagas))].Phase = 9
			recs[rnd.Intn(len(recs))].Kind = 9
		}
		was, wasRecs := sight(st), sightOf(recs)
		a, _ := export.State(st)
		b, _ := export.Records(recs...)
		if sight(st) != was || sightOf(recs) != wasRecs {
			t.Fatalf("%s or %s is changed", was, wasRecs)
		}
		for _, text := range [][]byte{a, b, a[:len(a)/2]} {
			given := roomyBytes(text)
			full := slices.Clone(room(given))
			gotState, e := export.ReadState(given)
			gotRecs, e2 := export.ReadRecords(given)
			if !bytes.Equal(room(given), full) {
				t.Fatalf("%s is changed", full)
			}
			scribble(given, '#')
			if e == api.OK && stateText(gotState) != string(text) || e2 == api.OK && recordsText(gotRecs) != string(text) {
				t.Fatalf("what was read of %s is changed", text)
			}
		}
	}
}

// Promise 14.8: what is read is new memory, and no two lists of it share any.
func TestReadIsNew(t *testing.T) {
	b := []byte(states[3].s)
	one, _ := export.ReadState(b)
	two, _ := export.ReadState(b)
	if !apart(append(append(dataOf(one), dataOf(two)...), b)...) || !apart(append(listsOf(one), listsOf(two)...)...) || !apart(one.Sagas, two.Sagas) {
		t.Error("two lists share memory")
	}
	scribbleState(one)
	if stateText(two) != states[3].s || string(b) != states[3].s {
		t.Error("writing into an answer changes others")
	}
	text := recordsText([]api.Record{{V: 3, Kind: 3, Saga: 5, Data: []byte("data")}, {V: 3, Kind: 3, Saga: 5, Data: []byte{0xff, 0xff}}, {V: 3, Kind: 3, Saga: 5, Data: []byte("data")}, {V: 3, Kind: 3, Saga: 5}})
	first, _ := export.ReadRecords([]byte(text))
	second, _ := export.ReadRecords([]byte(text))
	var data [][]byte
	for _, r := range slices.Concat(first, second) {
		data = append(data, r.Data)
	}
	if !apart(data...) || !apart(first, second) {
		t.Error("two lists share memory")
	}
	for _, d := range data[:len(first)] {
		scribble(d, '#')
	}
	scribble(first, api.Record{V: -1})
	if recordsText(second) != text {
		t.Error("writing into an answer changes others")
	}
}

// Promise 14.8: the texts that are told are new memory.
func TestTextsAreNew(t *testing.T) {
	st, recs := states[3].st, records[3].recs
	for _, call := range []func() ([]byte, api.Errno){
		func() ([]byte, api.Errno) { return export.State(st) },
		func() ([]byte, api.Errno) { return export.Records(recs...) },
	} {
		one, _ := call()
		want := string(one)
		two, _ := call()
		scribble(one, '#')
		three, _ := call()
		if string(two) != want || string(three) != want || !apart(one, two, three) {
			t.Errorf("writing into an answer changes others: %s", want)
		}
	}
	if stateText(st) != states[3].s || recordsText(recs) != records[3].s {
		t.Error("writing into an answer changes what was given")
	}
}

// Promise 14.8: nothing is kept from call to call: an answer is the same whatever was asked ahead of it, and side by side with others.
func TestNothingIsKept(t *testing.T) {
	var group sync.WaitGroup
	for k := range 8 {
		group.Go(func() {
			for i := range 200 {
				c, odd, r := states[(i+k)%len(states)], oddStates[(i*k)%len(oddStates)], records[(i*3+k)%len(records)]
				if b, e := export.State(c.st); string(b) != c.s || e != api.OK {
					t.Errorf("State = %s, %d", b, e)
				}
				if _, e := export.ReadState([]byte(odd.s)); e != odd.e {
					t.Errorf("ReadState(%s) = %d", short(odd.s), e)
				}
				if st, e := export.ReadState([]byte(c.s)); !same(st, c.st) || e != api.OK {
					t.Errorf("ReadState(%s) = %v, %d", c.s, st, e)
				}
				if b, e := export.Records(r.recs...); string(b) != r.s || e != api.OK {
					t.Errorf("Records = %s, %d", b, e)
				}
				if recs, e := export.ReadRecords([]byte(r.s)); !same(recs, r.recs) || e != api.OK {
					t.Errorf("ReadRecords(%s) = %v, %d", r.s, recs, e)
				}
			}
		})
	}
	group.Wait()
}
