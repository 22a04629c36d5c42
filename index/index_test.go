package index_test

import (
	"fmt"
	"iter"
	"math"
	"math/rand"
	"slices"
	"strings"
	"testing"

	"annals/api"
	"annals/index"
)

// The calls, with the signatures that the chapter lists.
var (
	_ func() *index.Multi[string]                                 = index.New[string]
	_ func(*index.Multi[string], int, string)                     = (*index.Multi[string]).Add
	_ func(*index.Multi[string], int) []string                    = (*index.Multi[string]).Get
	_ func(*index.Multi[string]) []int                            = (*index.Multi[string]).Keys
	_ func(*index.Multi[string]) int                              = (*index.Multi[string]).Len
	_ func(*index.Multi[string], int) int                         = (*index.Multi[string]).Drop
	_ func(*index.Multi[string]) iter.Seq2[int, string]           = (*index.Multi[string]).All
	_ func(*index.Multi[string], int, int) iter.Seq2[int, string] = (*index.Multi[string]).Range
	_ func(*index.Multi[int]) ([]byte, api.Errno)                 = index.Encode
	_ func([]byte) (*index.Multi[int], api.Errno)                 = index.Decode
)

// pair is a key with one value.
type pair struct {
	key int
	v   string
}

// plain is a second reading of the container: all pairs in the order in which they were added.
type plain []pair

func (p plain) get(key int) []string {
	var out []string
	for _, x := range p {
		if x.key == key {
			out = append(out, x.v)
		}
	}
	return out
}

// keys asks for each number that a key of these tests may be whether it has a value.
func (p plain) keys() []int {
	var out []int
	for _, key := range someKeys {
		if len(p.get(key)) > 0 {
			out = append(out, key)
		}
	}
	return out
}

func (p plain) between(lo, hi int) plain {
	var out plain
	for _, key := range p.keys() {
		for _, v := range p.get(key) {
			if key >= lo && key <= hi {
				out = append(out, pair{key, v})
			}
		}
	}
	return out
}

func (p plain) without(key int) plain {
	var out plain
	for _, x := range p {
		if x.key != key {
			out = append(out, x)
		}
	}
	return out
}

// someKeys are the keys of these tests, rising.
var someKeys = []int{math.MinInt, math.MinInt + 1, -1 << 32, -7, -1, 0, 1, 2, 3, 7, 9, 1 << 32, math.MaxInt - 1, math.MaxInt}

// gathered is all that one range gives.
func gathered(it iter.Seq2[int, string]) plain {
	var out plain
	for key, v := range it {
		out = append(out, pair{key, v})
	}
	return out
}

// filled is a Multi of pairs.
func filled(l ...pair) *index.Multi[string] {
	m := index.New[string]()
	for _, x := range l {
		m.Add(x.key, x.v)
	}
	return m
}

// three is the Multi of the chapter's examples.
func three() *index.Multi[string] { return filled(pair{7, "x"}, pair{3, "y"}, pair{7, "z"}) }

// told is all that a range gives, as a text.
func told(it iter.Seq2[int, string]) string {
	var out []string
	for key, v := range it {
		out = append(out, fmt.Sprint(key, " ", v))
	}
	return strings.Join(out, ", ")
}

// agree holds all that a Multi tells against the plain list.
func agree(t *testing.T, m *index.Multi[string], p plain) {
	t.Helper()
	if keys := m.Keys(); !slices.Equal(keys, p.keys()) {
		t.Fatalf("%v: keys %v", p, keys)
	}
	if m.Len() != len(p) {
		t.Fatalf("%v: %d values", p, m.Len())
	}
	for _, key := range someKeys {
		if got := m.Get(key); !slices.Equal(got, p.get(key)) {
			t.Fatalf("%v: Get(%d) = %q", p, key, got)
		}
	}
	if got := gathered(m.All()); !slices.Equal(got, p.between(math.MinInt, math.MaxInt)) {
		t.Fatalf("%v: All gives %v", p, got)
	}
}

// Promises 5.1 to 5.8: the chapter's examples.
func TestContainerExamples(t *testing.T) {
	m := three()
	if got := fmt.Sprint(m.Keys(), m.Get(7), m.Len()); got != "[3 7] [x z] 3" {
		t.Errorf("keys, values of 7, length: %s", got)
	}
	if got := told(m.All()); got != "3 y, 7 x, 7 z" {
		t.Errorf("All gives %s", got)
	}
	if got := told(m.Range(4, 8)); got != "7 x, 7 z" {
		t.Errorf("Range(4, 8) gives %s", got)
	}
	if n := m.Drop(5); n != 0 || told(m.All()) != "3 y, 7 x, 7 z" {
		t.Errorf("Drop(5) = %d, and then %s", n, told(m.All()))
	}
	n, got := 0, ""
	for key, v := range m.All() {
		switch n {
		case 0:
			m.Add(9, "n")
		case 1:
			m.Drop(7)
		}
		n++
		got += fmt.Sprint(key, v, ".")
	}
	if got != "3y.7x.7z." || told(m.All()) != "3 y, 9 n" {
		t.Errorf("changed within: %s, and then %s", got, told(m.All()))
	}
}

// Promise 5.1: New is not nil and has no key, and two Multis have nothing in common.
func TestNew(t *testing.T) {
	a, b := index.New[string](), index.New[string]()
	if a == nil || b == nil || a == b {
		t.Fatal("New gives no Multi of its own")
	}
	agree(t, a, nil)
	if a.Drop(0) != 0 {
		t.Error("a new Multi has a key 0")
	}
	a.Add(7, "a")
	agree(t, b, nil)
	b.Add(7, "b")
	b.Add(3, "b")
	agree(t, a, plain{{7, "a"}})
	a.Drop(7)
	agree(t, a, nil)
	agree(t, b, plain{{7, "b"}, {3, "b"}})
}

// Promises 5.2 to 5.5: any int is a key, and the same value may come again.
func TestAnyKeyAndAnyValue(t *testing.T) {
	m, p := index.New[string](), plain{}
	for _, i := range rand.New(rand.NewSource(1)).Perm(len(someKeys)) {
		for _, v := range []string{"a", "", "a", "b", "a", "a"} {
			m.Add(someKeys[i], v)
			p = append(p, pair{someKeys[i], v})
			agree(t, m, p)
		}
	}
	if got := strings.Join(m.Get(math.MinInt), ","); got != "a,,a,b,a,a" {
		t.Errorf("the values of the least key: %s", got)
	}
}

// Promise 5.6: Drop takes the key's values, no other's, and tells how many; a key that comes again begins anew.
func TestDrop(t *testing.T) {
	m := three()
	old := m.Get(7)
	if n := m.Drop(7); n != 2 {
		t.Errorf("Drop(7) = %d", n)
	}
	agree(t, m, plain{{3, "y"}})
	if n := m.Drop(7); n != 0 {
		t.Errorf("Drop(7) once more = %d", n)
	}
	m.Add(7, "new")
	agree(t, m, plain{{3, "y"}, {7, "new"}})
	if strings.Join(old, "") != "xz" {
		t.Errorf("what Get told became %q", old)
	}
	if n := m.Drop(3); n != 1 {
		t.Errorf("Drop(3) = %d", n)
	}
	agree(t, m, plain{{7, "new"}})
	if m.Drop(math.MinInt) != 0 || m.Drop(7) != 1 {
		t.Error("the last key, or one that is not there")
	}
	agree(t, m, nil)
}

// Promises 5.2 to 5.8: many calls, one behind the other, tell what a plain list tells.
func TestAsAPlainList(t *testing.T) {
	for seed := range int64(60) {
		r := rand.New(rand.NewSource(seed))
		pick := func() int { return someKeys[r.Intn(len(someKeys))] }
		m, p := index.New[string](), plain{}
		for i := range 120 {
			if key := pick(); r.Intn(6) == 0 {
				if n := m.Drop(key); n != len(p.get(key)) {
					t.Fatalf("%v: Drop(%d) = %d", p, key, n)
				}
				p = p.without(key)
			} else {
				v := fmt.Sprint("v", i%50)
				m.Add(key, v)
				p = append(p, pair{key, v})
			}
			agree(t, m, p)
			lo, hi := pick(), pick()
			if got := gathered(m.Range(lo, hi)); !slices.Equal(got, p.between(lo, hi)) {
				t.Fatalf("%v: Range(%d, %d) gives %v", p, lo, hi, got)
			}
		}
	}
}

// Promise 5.8: both ends belong to the range; a range whose lo is above its hi gives nothing.
func TestRangeBounds(t *testing.T) {
	m := filled(pair{math.MinInt, "a"}, pair{-1, "b"}, pair{0, "c"}, pair{4, "d"}, pair{5, "e"}, pair{math.MaxInt, "f"})
	rows := []struct {
		lo, hi int
		want   string
	}{
		{math.MinInt, math.MaxInt, "abcdef"},
		{math.MinInt, math.MinInt, "a"},
		{math.MaxInt, math.MaxInt, "f"},
		{math.MinInt + 1, math.MaxInt - 1, "bcde"},
		{-1, 4, "bcd"},
		{0, 0, "c"},
		{1, 3, ""},
		{4, 5, "de"},
		{3, 6, "de"},
		{5, 4, ""},
		{math.MaxInt, math.MinInt, ""},
		{0, -1, ""},
	}
	for _, row := range rows {
		it := m.Range(row.lo, row.hi)
		if it == nil {
			t.Fatalf("Range(%d, %d) is nil", row.lo, row.hi)
		}
		got := ""
		for _, v := range it {
			got += v
		}
		if got != row.want {
			t.Errorf("Range(%d, %d) gives %q, not %q", row.lo, row.hi, got, row.want)
		}
	}
	if index.New[int]().All() == nil || index.New[int]().Range(2, 1) == nil {
		t.Error("an empty range is nil")
	}
}

// change does something to a Multi and to its plain list.
func change(r *rand.Rand, m *index.Multi[string], p plain) plain {
	key := someKeys[r.Intn(len(someKeys))]
	if r.Intn(3) == 0 {
		m.Drop(key)
		p = p.without(key)
	}
	if r.Intn(3) > 0 {
		v := fmt.Sprint("w", r.Intn(50))
		m.Add(key, v)
		p = append(slices.Clone(p), pair{key, v})
	}
	return p
}

// Promises 5.7 and 5.8: a range gives what the Multi held when it began, whatever the loop's body does, and the Multi holds what the body did.
func TestChangedWithin(t *testing.T) {
	for seed := range int64(400) {
		r := rand.New(rand.NewSource(seed))
		m, p := index.New[string](), plain{}
		for range 30 {
			p = change(r, m, p)
		}
		lo, hi := math.MinInt, math.MaxInt
		it := m.All()
		if seed%2 == 1 {
			lo, hi = -1, 9
			it = m.Range(lo, hi)
		}
		for range 3 {
			p = change(r, m, p)
			want := p.between(lo, hi)
			var got plain
			for key, v := range it {
				got = append(got, pair{key, v})
				p = change(r, m, p)
				p = change(r, m, p)
			}
			if !slices.Equal(got, want) {
				t.Fatalf("seed %d: the range gives %v, not %v", seed, got, want)
			}
			agree(t, m, p)
		}
	}
}

// Promise 5.7: values that join the very key at hand, and a key that is dropped and comes again, are not in the range.
func TestSameKeyWithin(t *testing.T) {
	for kept := range 9 {
		m := index.New[string]()
		want := ""
		for i := range kept + 1 {
			m.Add(5, string(rune('a'+i)))
			want += string(rune('a' + i))
		}
		got, n := "", 0
		for _, v := range m.All() {
			got += v
			m.Add(5, "joined")
			m.Drop(5)
			for range n {
				m.Add(5, "anew")
			}
			n++
		}
		if got != want || m.Len() != n-1 {
			t.Errorf("the range gives %q, not %q; %d values then", got, want, m.Len())
		}
	}
}

// Promise 5.7: the same answer may be ranged over again, later and within its own loop: each range gives what the Multi holds when it begins.
func TestRangedAgain(t *testing.T) {
	m := index.New[string]()
	all, some := m.All(), m.Range(3, 7)
	if told(all) != "" || told(some) != "" {
		t.Error("a new Multi gives something")
	}
	m.Add(7, "x")
	m.Add(9, "n")
	if told(all) != "7 x, 9 n" || told(some) != "7 x" || told(all) != told(all) {
		t.Errorf("later: %s; %s", told(all), told(some))
	}
	got := ""
	for key, v := range all {
		got += fmt.Sprint(key, v, "(")
		for key, v := range all {
			got += fmt.Sprint(key, v, ",")
			m.Add(1, "l")
		}
		got += told(some) + ")"
	}
	if got != "7x(7x,9n,7 x)9n(1l,1l,7x,9n,7 x)" {
		t.Errorf("within its own loop: %s", got)
	}
	m.Drop(7)
	m.Drop(1)
	if told(all) != "9 n" || told(some) != "" {
		t.Errorf("after drops: %s; %s", told(all), told(some))
	}
}

// Promise 5.7: a range that is left early gives nothing more, and the next one begins at the beginning.
func TestLeftEarly(t *testing.T) {
	m := filled(pair{2, "a"}, pair{2, "b"}, pair{1, "c"}, pair{4, "d"}, pair{4, "e"})
	for _, it := range []iter.Seq2[int, string]{m.All(), m.Range(1, 4)} {
		for stop := range 5 {
			n := 0
			it(func(int, string) bool {
				n++
				return n <= stop
			})
			if n != stop+1 {
				t.Errorf("left at value %d: %d values were given", stop, n)
			}
			if told(it) != "1 c, 2 a, 2 b, 4 d, 4 e" {
				t.Errorf("left at value %d: then %s", stop, told(it))
			}
		}
	}
	next, leave := iter.Pull2(m.All())
	m.Add(0, "first")
	if key, v, ok := next(); key != 0 || v != "first" || !ok {
		t.Errorf("pulled: %d %s", key, v)
	}
	m.Drop(1)
	if key, v, ok := next(); key != 1 || v != "c" || !ok {
		t.Errorf("pulled: %d %s", key, v)
	}
	leave()
	if _, _, ok := next(); ok {
		t.Error("a range that was left gives on")
	}
	if told(m.All()) != "0 first, 2 a, 2 b, 4 d, 4 e" {
		t.Errorf("then: %s", told(m.All()))
	}
}

// Promise 5.7: a range whose loop panics leaves nothing behind either.
func TestLeftByPanic(t *testing.T) {
	m := three()
	func() {
		defer func() { recover() }()
		for range m.All() {
			m.Add(1, "p")
			panic("out")
		}
	}()
	if told(m.All()) != "1 p, 3 y, 7 x, 7 z" {
		t.Errorf("then: %s", told(m.All()))
	}
}

// Promise 5.2: the container is the same for values of every type.
func TestOtherTypes(t *testing.T) {
	recs := index.New[api.Record]()
	recs.Add(5, api.Record{Saga: 5, Kind: api.KEnd, Data: []byte("d")})
	recs.Add(5, api.Record{Saga: 5})
	if l := recs.Get(5); len(l) != 2 || l[0].Kind != api.KEnd || string(l[0].Data) != "d" || recs.Len() != 2 {
		t.Errorf("records: %v", l)
	}
	none := index.New[struct{}]()
	for range 3 {
		none.Add(1, struct{}{})
	}
	if none.Len() != 3 || len(none.Get(1)) != 3 || none.Drop(1) != 3 {
		t.Error("values without a byte")
	}
	funcs := index.New[func() int]()
	anys := index.New[any]()
	for i := range 3 {
		funcs.Add(-i, func() int { return i })
		anys.Add(i, nil)
		anys.Add(i, []any{i, "x"})
	}
	sum := 0
	for key, f := range funcs.All() {
		sum = sum*10 + f() - key
	}
	if sum != 420 || fmt.Sprint(anys.Get(1)) != "[<nil> [1 x]]" {
		t.Errorf("functions: %d; any: %v", sum, anys.Get(1))
	}
	var nested []string
	outer := index.New[*index.Multi[string]]()
	outer.Add(2, three())
	for _, inner := range outer.All() {
		nested = append(nested, told(inner.All()))
	}
	if strings.Join(nested, ";") != "3 y, 7 x, 7 z" {
		t.Errorf("Multis in a Multi: %q", nested)
	}
}

// Promise 5.12: many keys and many values of one key are gone through by rising key, in the order in which they came.
func TestMany(t *testing.T) {
	const n = 200000
	m := index.New[int]()
	for i := range n {
		m.Add((i*7919+13)%n, i)
		m.Add(-1, i)
	}
	want, at := -1, 0
	for key, v := range m.All() {
		if at < n && (key != -1 || v != at) || at >= n && key != want+1 {
			t.Fatalf("at %d: %d %d", at, key, v)
		}
		if at >= n {
			want++
		}
		at++
	}
	if at != 2*n || m.Len() != 2*n || len(m.Keys()) != n+1 || m.Drop(-1) != n || m.Len() != n {
		t.Errorf("%d values were given; then %d in %d keys", at, m.Len(), len(m.Keys()))
	}
}
