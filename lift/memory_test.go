package lift_test

import (
	"bytes"
	"math"
	"math/rand"
	"strings"
	"sync"
	"testing"

	"annals/api"
	"annals/lift"
	"annals/record"
)

// spare is b with spare room behind it that is not zero.
func spare(b []byte) []byte {
	whole := append(bytes.Clone(b), "spare room"...)
	return whole[:len(b):len(whole)]
}

// room is a list with all its spare room.
func room[T any](list []T) []T { return list[:cap(list)] }

// scribble writes into an answer, and behind its end.
func scribble(b []byte) {
	for i := range room(b) {
		room(b)[i] ^= 0x5a
	}
}

// scribbleAll does so with a list of records and with their data.
func scribbleAll(recs []api.Record) {
	for i := range room(recs) {
		scribble(room(recs)[i].Data)
		room(recs)[i] = api.Record{V: -1, Name: "scribble"}
	}
}

// drawOdd is a record of any numbers at all.
func drawOdd(r *rand.Rand) api.Record {
	pick := func() int {
		odd := []int{math.MinInt, -1, 0, 0, 0, 1, 1, 2, 3, 7, 31, 32, 33, 1000, math.MaxInt, int(r.Uint64())}
		return odd[r.Intn(len(odd))]
	}
	return api.Record{
		V: r.Intn(5), Kind: r.Intn(9), Saga: pick(), Step: pick(), Try: pick(), At: pick(), Last: pick(), Code: pick(), Count: pick(), Pivot: pick(),
		Name: names[r.Intn(len(names))], Data: []byte(datas[r.Intn(len(datas))]),
	}
}

// Promise 4.9: no call panics or runs on, whatever it is given; beside an error the answer is zero.
func TestAnythingIsTaken(t *testing.T) {
	r := rand.New(rand.NewSource(1))
	for range 20000 {
		x, to := drawOdd(r), r.Intn(6)-1
		up, e := lift.Up(x, to)
		down, e2 := lift.Down(x, to)
		v, e3 := lift.Least(x)
		if e != api.OK && !equal(up, api.Record{}) || e2 != api.OK && !equal(down, api.Record{}) || e3 != api.OK && v != 0 {
			t.Fatalf("%+v to %d: %+v, %d, %+v, %d, %d, %d", x, to, up, e, down, e2, v, e3)
		}
		if list, _, e := lift.UpAll(to, x, x); e != api.OK && len(list) != 0 {
			t.Fatalf("UpAll(%d, %+v) = %v, %d", to, x, list, e)
		}
	}
	great := api.Record{V: 1, Kind: 1, Saga: 1, Step: 1, Name: strings.Repeat("x", 1<<24), Data: make([]byte, 1<<24)}
	if _, e := lift.Up(great, 2); e != api.ErrExtra {
		t.Errorf("a great record: error %d", e)
	}
	many := make([]api.Record, 100000)
	for i := range many {
		many[i] = api.Record{V: 1, Kind: api.KStart, Saga: i + 1}
	}
	if got, at, e := lift.UpAll(3, many...); len(got) != len(many) || at != 0 || e != api.OK || got[99999].Saga != 100000 {
		t.Errorf("many records: %d, %d, %d", len(got), at, e)
	}
}

// Promise 4.9: Up and Down change nothing that is handed in, keep none of it, and share none of it with their answers, not even where the record stays as it is.
func TestRecordsStay(t *testing.T) {
	eachValid(func(r api.Record) {
		for to := 1; to <= 3; to++ {
			for _, call := range []func(api.Record, int) (api.Record, api.Errno){lift.Up, lift.Down} {
				in := r
				in.Data = spare(r.Data)
				was := bytes.Clone(room(in.Data))
				first, _ := call(in, to)
				second, _ := call(in, to)
				lift.Least(in)
				want := tell(second)
				scribble(first.Data)
				if !bytes.Equal(room(in.Data), was) || tell(second) != want {
					t.Fatalf("%+v to %d: writing into the answer changes another thing", r, to)
				}
				scribble(in.Data)
				if tell(second) != want {
					t.Fatalf("%+v to %d: writing into what was handed in changes the answer", r, to)
				}
			}
		}
	})
}

// Promise 4.9: UpAll does not change the list, its spare room or the data of its records, and shares none with its answer, nor one record of the answer with another.
func TestListsStay(t *testing.T) {
	data := spare([]byte("data"))
	wasData := bytes.Clone(room(data))
	one := api.Record{V: 3, Kind: api.KDone, Saga: 7, Data: data}
	list := append(some(), one, one, one, api.Record{V: 9, Name: "spare"})
	n := len(list) - 1
	var was []api.Record
	for _, r := range list {
		was = append(was, record.Clone(r))
	}
	got, _, e := lift.UpAll(3, list[:n]...)
	again, _, _ := lift.UpAll(3, list[:n]...)
	if e != api.OK || len(got) != n || len(again) != n {
		t.Fatalf("%d records, %d", len(got), e)
	}
	lift.UpAll(2, list[:n]...)
	scribble(got[n-1].Data)
	if string(got[n-2].Data) != "data" || string(got[n-3].Data) != "data" {
		t.Error("two records of an answer share their data")
	}
	scribbleAll(got)
	for i, r := range list {
		if !equal(r, was[i]) {
			t.Errorf("the record at %d became %+v", i, r)
		}
	}
	if !bytes.Equal(room(data), wasData) {
		t.Errorf("the data became %q", room(data))
	}
	scribbleAll(list)
	for i, r := range again {
		if !equal(r, lifted(was[i], 3)) {
			t.Errorf("the answer's record at %d became %+v", i, r)
		}
	}
}

// Promise 4.9: whoever writes into the names of the steps changes no later answer.
func TestStepsAreNew(t *testing.T) {
	first, second := lift.Steps(1, 3), lift.Steps(1, 3)
	for i := range room(first) {
		room(first)[i] = "x"
	}
	for _, names := range [][]string{second, lift.Steps(1, 3)} {
		if strings.Join(names, " ") != "1to2 2to3" {
			t.Errorf("the steps became %q", names)
		}
	}
}

// Promise 4.9: calls side by side answer as calls one behind the other.
func TestSideBySide(t *testing.T) {
	var group sync.WaitGroup
	for i := range 8 {
		group.Go(func() {
			for range 50 {
				for _, r := range some() {
					up, _ := lift.Up(r, 3)
					if back, e := lift.Down(up, r.V); e != api.OK || !equal(back, r) {
						t.Errorf("worker %d: %+v came back as %+v, %d", i, r, back, e)
					}
				}
			}
		})
	}
	group.Wait()
}
