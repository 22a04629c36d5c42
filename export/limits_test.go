package export_test

import (
	"bytes"
	"math"
	"runtime"
	"slices"
	"strings"
	"testing"

	"annals/api"
	"annals/export"
	"annals/replay"
	"annals/saga"
)

// whole is a saga of so many steps that is whole.
func whole(id int, outs ...[]byte) api.Saga {
	return api.Saga{ID: id, Name: "a", Count: len(outs), Phase: api.Whole, Next: len(outs), Outs: outs}
}

// full is a saga that is whole, with as much data of a byte as its steps can have.
func full(id int, c byte) api.Saga {
	outs := make([][]byte, api.MaxSteps)
	for i := range outs {
		outs[i] = bytes.Repeat([]byte{c}, api.MaxData)
	}
	return whole(id, outs...)
}

// stateOf is a state whose text has just so many bytes, most of it data of the byte c.
func stateOf(length int, c byte) api.State {
	st := api.State{Count: 1000}
	last := whole(1000, make([][]byte, api.MaxSteps)...)
	rest := length - len(stateText(api.State{Count: 1000, Sagas: []api.Saga{last}}))
	for _, fill := range []byte{c, 'x'} {
		for each := len(sagaText(full(100, fill))) + 1; rest >= each; rest -= each {
			st.Sagas = append(st.Sagas, full(100+len(st.Sagas), fill))
		}
	}
	for i := range last.Outs {
		n := min(rest, api.MaxData)
		last.Outs[i] = bytes.Repeat([]byte("x"), n)
		rest -= n
	}
	last.Input = bytes.Repeat([]byte("x"), rest)
	st.Sagas = append(st.Sagas, last)
	return st
}

// recordsOf is records whose text has just so many bytes, most of it data of the byte c.
func recordsOf(length int, c byte) []api.Record {
	done := func(n int, c byte) api.Record {
		return api.Record{V: 3, Kind: api.KDone, Saga: 5, Data: bytes.Repeat([]byte{c}, n)}
	}
	var out []api.Record
	rest := length - len(recordsText([]api.Record{done(1, 'x'), done(1, 'x')}))
	for _, fill := range []byte{c, 'x'} {
		for each := len(recordText(done(api.MaxData, fill))) + 1; rest >= each; rest -= each {
			out = append(out, done(api.MaxData, fill))
		}
	}
	return append(out, done(1+rest/2, 'x'), done(1+rest-rest/2, 'x'))
}

// Promises 14.1, 14.2, 14.5 and 14.6: a state whose text has MaxJSON bytes is told and read; with one byte more it is too long.
func TestLongestState(t *testing.T) {
	t.Parallel()
	for _, c := range []byte{'x', 0xff} {
		st := stateOf(api.MaxJSON, c)
		want := stateText(st)
		if len(want) != api.MaxJSON {
			t.Fatalf("the text has %d bytes", len(want))
		}
		b, e := export.State(st)
		if string(b) != want || e != api.OK {
			t.Fatalf("%q: State = %d bytes, %d", c, len(b), e)
		}
		back, e := export.ReadState(b)
		if e != api.OK || !slices.EqualFunc(back.Sagas, st.Sagas, sameSaga) || back.Count != st.Count {
			t.Fatalf("%q: ReadState = %d sagas, %d", c, len(back.Sagas), e)
		}
		if b, e := export.State(stateOf(api.MaxJSON+1, c)); len(b) != 0 || e != api.ErrLong {
			t.Fatalf("%q: State of a longer one = %d bytes, %d", c, len(b), e)
		}
	}
}

// sameSaga tells whether two sagas are the same, without a text of them.
func sameSaga(a, b api.Saga) bool {
	return a.ID == b.ID && bytes.Equal(a.Input, b.Input) && slices.EqualFunc(a.Outs, b.Outs, bytes.Equal) && a.Name == b.Name && a.Count == b.Count && a.Phase == b.Phase && a.Next == b.Next
}

// Promises 14.3, 14.4, 14.5 and 14.6: the same of records.
func TestLongestRecords(t *testing.T) {
	t.Parallel()
	for _, c := range []byte{0xff, 0} {
		recs := recordsOf(api.MaxJSON, c)
		want := recordsText(recs)
		if len(want) != api.MaxJSON {
			t.Fatalf("the text has %d bytes", len(want))
		}
		b, e := export.Records(recs...)
		if string(b) != want || e != api.OK {
			t.Fatalf("%q: Records = %d bytes, %d", c, len(b), e)
		}
		back, e := export.ReadRecords(b)
		if e != api.OK || len(back) != len(recs) || recordsText(back) != want {
			t.Fatalf("%q: ReadRecords = %d records, %d", c, len(back), e)
		}
		if b, e := export.Records(recordsOf(api.MaxJSON+1, c)...); len(b) != 0 || e != api.ErrLong {
			t.Fatalf("%q: Records of longer ones = %d bytes, %d", c, len(b), e)
		}
	}
}

// Promises 14.2 and 14.4: a text of more than MaxJSON bytes is not read, whatever it holds.
func TestReadTooLong(t *testing.T) {
	t.Parallel()
	for _, b := range [][]byte{
		[]byte(stateText(stateOf(api.MaxJSON+1, 'x'))),
		[]byte(recordsText(recordsOf(api.MaxJSON+1, 'x'))),
		bytes.Repeat([]byte(" "), api.MaxJSON+1),
		bytes.Repeat([]byte{0xff}, api.MaxJSON+1),
	} {
		if st, e := export.ReadState(b); !same(st, api.State{}) || e != api.ErrLong {
			t.Errorf("ReadState = %d sagas, %d", len(st.Sagas), e)
		}
		if recs, e := export.ReadRecords(b); len(recs) != 0 || e != api.ErrLong {
			t.Errorf("ReadRecords = %d records, %d", len(recs), e)
		}
	}
}

// Promises 14.1 and 14.3: what may not be told is told as such, however long it is.
func TestWrongComesAheadOfLong(t *testing.T) {
	st := stateOf(api.MaxJSON+1, 'x')
	st.Sagas[len(st.Sagas)-1].Next = 0
	if b, e := export.State(st); len(b) != 0 || e != api.ErrState {
		t.Errorf("State = %d bytes, %d", len(b), e)
	}
	st = stateOf(api.MaxJSON+1, 'x')
	st.Count = len(st.Sagas) - 1
	if b, e := export.State(st); len(b) != 0 || e != api.ErrState {
		t.Errorf("State = %d bytes, %d", len(b), e)
	}
	recs := append(recordsOf(api.MaxJSON+1, 'x'), api.Record{V: 3, Kind: api.KDone})
	if b, e := export.Records(recs...); len(b) != 0 || e != api.ErrID {
		t.Errorf("Records = %d bytes, %d", len(b), e)
	}
}

// allotted is how many bytes of memory a call asks for.
func allotted(call func()) uint64 {
	var before, behind runtime.MemStats
	runtime.ReadMemStats(&before)
	call()
	runtime.ReadMemStats(&behind)
	return behind.TotalAlloc - before.TotalAlloc
}

// Promises 14.1, 14.3 and 14.8: of what shares its bytes so that its text would be far longer than itself no more is made than it takes to tell so.
func TestFarTooLong(t *testing.T) {
	outs := full(1, 0xff).Outs
	st := api.State{Count: math.MaxInt}
	for id := range 20000 {
		st.Sagas = append(st.Sagas, whole(1+id, outs...))
	}
	recs := make([]api.Record, 200000)
	for i := range recs {
		recs[i] = api.Record{V: 3, Kind: api.KDone, Saga: 5, Data: outs[0]}
	}
	for _, call := range []func() ([]byte, api.Errno){
		func() ([]byte, api.Errno) { return export.State(st) },
		func() ([]byte, api.Errno) { return export.Records(recs...) },
	} {
		n := allotted(func() {
			if b, e := call(); len(b) != 0 || e != api.ErrLong {
				t.Errorf("%d bytes, %d", len(b), e)
			}
		})
		if n > 4*api.MaxJSON {
			t.Errorf("%d bytes of memory were asked for", n)
		}
	}
}

// Promises 14.2, 14.4 and 14.5: as many sagas and records as a text holds.
func TestManySmallOnes(t *testing.T) {
	t.Parallel()
	st := api.State{Count: 90000}
	for id := range st.Count {
		st.Sagas = append(st.Sagas, api.Saga{ID: 1 + id, Name: "a", Count: 1, Phase: api.Running})
	}
	b, e := export.State(st)
	if e != api.OK {
		t.Fatal(e)
	}
	if back, e := export.ReadState(b); e != api.OK || len(back.Sagas) != st.Count || back.Sagas[st.Count-1].ID != st.Count {
		t.Fatalf("ReadState = %d sagas, %d", len(back.Sagas), e)
	}
	text := "[" + strings.Repeat(`{"kind":"end","saga":1,"v":1},`, 500000) + `{"kind":"end","saga":1,"v":1}]`
	recs, e := export.ReadRecords([]byte(text))
	if len(recs) != 500001 || e != api.OK {
		t.Fatalf("ReadRecords = %d records, %d", len(recs), e)
	}
	if b, e := export.Records(recs...); string(b) != text || e != api.OK {
		t.Errorf("Records = %d bytes, %d", len(b), e)
	}
}

// Promise 14.7: a step that is tried more often than tries are counted goes on behind its story as behind its log.
func TestTriesAtTheirBound(t *testing.T) {
	recs := []api.Record{{V: 3, Kind: api.KBegin, Saga: 7, Count: 1, Name: "buy"}}
	for i := range api.MaxTry + 5 {
		recs = append(recs, api.Record{V: 3, Kind: api.KStart, Saga: 7, Try: min(i+1, api.MaxTry)}, api.Record{V: 3, Kind: api.KFail, Saga: 7})
	}
	st, at := replay.Fold(recs...)
	if at != -1 {
		t.Fatal(at)
	}
	b, _ := export.State(st)
	back, e := export.ReadState(b)
	if e != api.OK || !same(back, st) {
		t.Fatal(back, e)
	}
	story, _ := saga.Story(back.Sagas[0])
	for _, try := range []int{api.MaxTry - 1, api.MaxTry} {
		next := api.Record{V: 3, Kind: api.KStart, Saga: 7, Try: try}
		want, at := replay.Fold(append(slices.Clone(recs), next)...)
		got, at2 := replay.Fold(append(slices.Clone(story), next)...)
		if !same(got.Sagas, want.Sagas) || (at == -1) != (try == api.MaxTry) || (at == -1) != (at2 == -1) {
			t.Errorf("try %d: %v, %d and %v, %d", try, want, at, got, at2)
		}
	}
}
