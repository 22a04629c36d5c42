package index_test

import (
	"bytes"
	"math"
	"math/rand"
	"runtime"
	"slices"
	"sync"
	"testing"

	"annals/api"
	"annals/index"
)

// spare is b with spare room behind it that is not zero.
func spare(b []byte) []byte {
	whole := append(bytes.Clone(b), "\x01\x01\x01\x01"...)
	return whole[:len(b):len(whole)]
}

// room is a list with all its spare room.
func room[T any](list []T) []T { return list[:cap(list)] }

// scribble writes into an answer, and behind its end.
func scribble[T any](list []T, v T) {
	for i := range room(list) {
		room(list)[i] = v
	}
}

// Promises 5.3 and 5.4: whoever writes into an answer, behind its end too, changes nothing else, whether values come before or after it.
func TestAnswersAreNew(t *testing.T) {
	for n := range 40 {
		m, p := index.New[string](), plain{}
		add := func(key int, v string) {
			m.Add(key, v)
			p = append(p, pair{key, v})
		}
		for i := range n {
			add(7, string(rune('a'+i)))
			add(someKeys[i%len(someKeys)], "k")
		}
		values, again, keys := m.Get(7), m.Get(7), m.Keys()
		was := slices.Clone(again)
		scribble(values, "scribble")
		scribble(keys, 3)
		if !slices.Equal(again, was) {
			t.Fatalf("%d values: writing into one answer changes another", n)
		}
		agree(t, m, p)
		values, keys = m.Get(7), m.Keys()
		_ = append(values, "behind")
		_ = append(keys, -7)
		add(7, "later")
		scribble(m.Get(7), "scribble")
		agree(t, m, p)
		if !slices.Equal(values, was) {
			t.Fatalf("%d values: a later Add changes an answer", n)
		}
		before := m.Get(7)
		scribble(again, "scribble")
		if !slices.Equal(m.Get(7), before) {
			t.Fatalf("%d values: an answer lies where the values lie", n)
		}
	}
	none := index.New[string]()
	scribble(none.Get(7), "scribble")
	scribble(none.Keys(), 3)
	agree(t, none, nil)
}

// Promise 5.7: an answer of Get that is written into changes no range that goes on.
func TestScribbledWithin(t *testing.T) {
	m := three()
	got := ""
	for key, v := range m.All() {
		got += v
		scribble(m.Get(key), "scribble")
		scribble(m.Keys(), 0)
	}
	if got != "yxz" {
		t.Errorf("the range gives %q", got)
	}
}

// Promise 5.9: the bytes of an index are new, and what is written into them changes neither the Multi nor other bytes.
func TestBytesAreNew(t *testing.T) {
	for _, rows := range [][]row{nil, {{2, []int{5, 300}}, {130, []int{9}}}} {
		m := offsetsOf(rows...)
		first, _ := index.Encode(m)
		second, _ := index.Encode(m)
		was := bytes.Clone(second)
		scribble(first, 0x5a)
		third, _ := index.Encode(m)
		if !bytes.Equal(second, was) || !bytes.Equal(third, was) || !sameRows(rowsOf(m), rows) {
			t.Errorf("%v: writing into the bytes changes another thing", rows)
		}
	}
}

// Promise 5.10: what is handed in is not changed and not kept, and its spare room is neither read nor changed.
func TestBytesStay(t *testing.T) {
	for _, text := range []string{"", "00", "02 02 02 05 a7 02 80 01 01 09", "01 02 02 05", "01 02 01", "01", "01 02 02 05 00", "00 00"} {
		b := spare(unhex(text))
		was := bytes.Clone(room(b))
		m, e := index.Decode(b)
		if again, e2 := index.Decode(bytes.Clone(unhex(text))); e != e2 || (m == nil) != (again == nil) {
			t.Errorf("%s: with spare room %d, without it %d", text, e, e2)
		}
		if !bytes.Equal(room(b), was) {
			t.Errorf("%s became % x", text, room(b))
		}
		if m == nil {
			continue
		}
		held := rowsOf(m)
		scribble(b, 0x5a)
		if !sameRows(rowsOf(m), held) {
			t.Errorf("%s: the Multi changes with the bytes that were read", text)
		}
	}
}

// Promise 5.10: no room is made ahead for keys or offsets that the bytes can't hold.
func TestNoRoomAhead(t *testing.T) {
	const all = "ffffffffffffffffff01"
	var before, after runtime.MemStats
	for _, text := range []string{"ffffff7f", "01 01 ffffff7f", all, "01 01" + all, all + "01" + all} {
		b := unhex(text)
		runtime.ReadMemStats(&before)
		m, e := index.Decode(b)
		runtime.ReadMemStats(&after)
		if m != nil || e != api.ErrShort {
			t.Errorf("%s: %v, %d", text, m, e)
		}
		if n := after.TotalAlloc - before.TotalAlloc; n > 1<<20 {
			t.Errorf("%s: %d bytes of room were made", text, n)
		}
	}
}

// Promise 5.12: no call panics or runs on, whatever it is given.
func TestAnythingIsTaken(t *testing.T) {
	r := rand.New(rand.NewSource(3))
	pick := func() int {
		odd := []int{math.MinInt, math.MinInt + 1, -1, 0, 1, 2, math.MaxInt - 1, math.MaxInt, int(r.Uint64())}
		return odd[r.Intn(len(odd))]
	}
	for range 3000 {
		m := index.New[int]()
		for range r.Intn(12) {
			m.Add(pick(), pick())
		}
		m.Drop(pick())
		m.Get(pick())
		n := 0
		for range m.All() {
			n++
		}
		for range m.Range(pick(), pick()) {
			n--
			m.Drop(pick())
		}
		b, e := index.Encode(m)
		if e != api.OK && len(b) != 0 || n < 0 {
			t.Fatalf("%v: % x, %d", rowsOf(m), b, e)
		}
		if e != api.OK {
			continue
		}
		if back, e := index.Decode(b); e != api.OK || !sameRows(rowsOf(back), rowsOf(m)) {
			t.Fatalf("%v comes back as %v, %d", rowsOf(m), back, e)
		}
	}
}

// Promise 5.12: calls side by side, each with its own Multi, answer as calls one behind the other.
func TestSideBySide(t *testing.T) {
	var group sync.WaitGroup
	b := unhex("02 02 02 05 a7 02 80 01 01 09")
	for i := range 8 {
		group.Go(func() {
			for range 200 {
				m, e := index.Decode(b)
				if e != api.OK {
					t.Errorf("worker %d: %d", i, e)
					return
				}
				m.Add(200+i, i)
				if got := rowsOf(m); !sameRows(got, []row{{2, []int{5, 300}}, {130, []int{9}}, {200 + i, []int{i}}}) {
					t.Errorf("worker %d: %v", i, got)
				}
				m.Drop(200 + i)
				if got, e := index.Encode(m); e != api.OK || !bytes.Equal(got, b) {
					t.Errorf("worker %d: % x, %d", i, got, e)
				}
			}
		})
	}
	group.Wait()
}
