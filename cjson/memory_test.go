package cjson_test

import (
	"bytes"
	"math/rand"
	"slices"
	"strings"
	"sync"
	"testing"

	"annals/api"
	"annals/cjson"
)

// room is a list with all its spare room.
func room[T any](list []T) []T { return list[:cap(list)] }

// spare is a list with spare room behind it that is not zero.
func spare[T any](list []T, behind ...T) []T {
	whole := slices.Concat(list, behind)
	return whole[:len(list):len(whole)]
}

// spacious is a value with spare room behind all its lists that is not zero.
func spacious(v api.Value) api.Value {
	if v.Names != nil {
		v.Names = spare(v.Names, "spare", "\xff")
	}
	if v.Items != nil {
		v.Items = spare(v.Items, num(99), api.Value{Kind: 77, Text: "spare"})
	}
	for i, item := range v.Items {
		v.Items[i] = spacious(item)
	}
	return v
}

// roomy is a value with the spare room of its lists as part of them.
func roomy(v api.Value) api.Value {
	out := v
	out.Names = slices.Clone(room(v.Names))
	out.Items = make([]api.Value, cap(v.Items))
	for i, item := range room(v.Items) {
		out.Items[i] = roomy(item)
	}
	return out
}

// scribble writes into all lists of a value, and behind their ends.
func scribble(v api.Value) {
	for i, item := range room(v.Items) {
		scribble(item)
		room(v.Items)[i] = api.Value{Kind: -7, Text: "scribbled"}
	}
	for i := range room(v.Names) {
		room(v.Names)[i] = "scribbled"
	}
}

// apart tells whether no two lists of values share memory.
func apart(values ...api.Value) bool {
	items, names := map[*api.Value]struct{}{}, map[*string]struct{}{}
	want := [2]int{}
	var walk func(api.Value)
	walk = func(v api.Value) {
		for i := range room(v.Names) {
			names[&room(v.Names)[i]] = struct{}{}
		}
		for i, item := range room(v.Items) {
			items[&room(v.Items)[i]] = struct{}{}
			walk(item)
		}
		want[0] += cap(v.Items)
		want[1] += cap(v.Names)
	}
	for _, v := range values {
		walk(v)
	}
	return len(items) == want[0] && len(names) == want[1]
}

const rich = `{"b":[1,[2,{"c":3,"a":[],"":{}}],"x"],"a":{"d":[[],[[4]]],"c":null,"b":true},"c":{"x":{"y":{"z":[]}}}}`

// Promise 13.11: the values that Loose, Parse and Get answer are new memory, no two lists of one share any, and writing into them changes nothing else.
func TestValuesAreNew(t *testing.T) {
	b := spare([]byte(rich), []byte(" spare")...)
	v, e, _ := cjson.Loose(b)
	c, _ := cjson.Print(v)
	p, e2, _ := cjson.Parse(c)
	if e != api.OK || e2 != api.OK {
		t.Fatal(e, e2)
	}
	whole, _ := cjson.Get(v)
	part, _ := cjson.Get(v, "b", "1")
	again, _ := cjson.Get(v, "b", "1")
	other, _, _ := cjson.Loose(b)
	if !apart(v, p, whole, part, again, other) {
		t.Error("two lists share memory")
	}
	want, _ := cjson.Print(other)
	for _, w := range []api.Value{p, whole, part, v} {
		scribble(w)
	}
	got, _ := cjson.Print(other)
	if !bytes.Equal(got, want) || !bytes.Equal(got, c) || string(b) != rich || string(room(b)[len(rich):]) != " spare" {
		t.Error("writing into an answer changes others")
	}
	if !same(again, list(num(2), object("|a|c", api.Value{Kind: api.JObject}, list(), num(3)))) {
		t.Errorf("writing into an answer changes another: %v", again)
	}
}

// Promise 13.11: an answer of Get shares no list with what it was given, also where lists of that lie in one another.
func TestGetOfSharedLists(t *testing.T) {
	place := []api.Value{num(1), num(2), num(3), list(num(4))}
	names := []string{"a", "b", "c", "d"}
	one := api.Value{Kind: api.JObject, Names: names[:2], Items: place[:2]}
	v := list(one, one, api.Value{Kind: api.JObject, Names: names[1:], Items: place[1:]}, api.Value{Kind: 9, Names: names[:0], Items: place[2:]})
	w, ok := cjson.Get(v)
	if !ok || !same(v, w) || !apart(w) {
		t.Fatal("the answer is not its own")
	}
	was := roomy(v)
	scribble(w)
	if !same(roomy(v), was) {
		t.Error("writing into an answer changes what was given")
	}
}

// Promise 13.11: the bytes that Print and Canon answer are new memory.
func TestTextsAreNew(t *testing.T) {
	b := []byte(rich)
	v, _, _ := cjson.Loose(b)
	p, _ := cjson.Print(v)
	q, _ := cjson.Print(v)
	c, _, _ := cjson.Canon(p)
	d, _, _ := cjson.Canon(p)
	want := string(q)
	for _, out := range [][]byte{p, c} {
		for i := range room(out) {
			room(out)[i] = '#'
		}
	}
	if r, _ := cjson.Print(v); string(q) != want || string(d) != want || string(r) != want || string(b) != rich {
		t.Error("writing into an answer changes others")
	}
	for i := range room(b) {
		room(b)[i] = '#'
	}
	if r, _ := cjson.Print(v); string(r) != want {
		t.Error("writing into what was read changes the answer")
	}
}

// Promise 13.11: nothing that is handed in is changed, nor the spare room behind it, be the call refused or not.
func TestGivenStaysAsItIs(t *testing.T) {
	rnd := rand.New(rand.NewSource(1311))
	for range 5000 {
		v := anyValue(rnd, 4)
		if rnd.Intn(3) == 0 {
			v = spoiled(rnd, v)
		}
		v = spacious(v)
		path := spare(pick(rnd, []string{}, []string{"0"}, []string{"a", "0"}, []string{"0", "1"}), "spare")
		was, steps := roomy(v), slices.Clone(room(path))
		out, _ := cjson.Print(v)
		cjson.Get(v, path...)
		if !same(roomy(v), was) || !slices.Equal(room(path), steps) {
			t.Fatalf("%v is changed", v)
		}
		b := spare(out, []byte(`"spare"]`)...)
		whole := slices.Clone(room(b))
		cut := b[:rnd.Intn(len(b)+1)]
		for _, given := range [][]byte{b, cut} {
			cjson.Loose(given)
			cjson.Parse(given)
			cjson.Canon(given)
		}
		if !bytes.Equal(room(b), whole) {
			t.Fatalf("%s is changed", whole)
		}
	}
}

// Promise 13.11: nothing is kept from call to call: an answer is the same whatever was asked ahead of it, and side by side with others.
func TestNothingIsKept(t *testing.T) {
	v, _, _ := cjson.Loose([]byte(rich))
	want, _ := cjson.Print(v)
	texts := []string{rich, "", "[1,", `{"a":1,"a":2}`, strings.Repeat("[", 17), `"\ud83d`, "1.5", "\"\xff", "nulL", " 1"}
	var group sync.WaitGroup
	for k := range 8 {
		group.Go(func() {
			for i := range 400 {
				b := []byte(texts[(i*(k+1)+k)%len(texts)])
				w, e, at := second(b)
				if got, e2, at2 := cjson.Loose(b); !same(got, w) || e2 != e || at2 != at {
					t.Errorf("Loose(%s) = %v, %d, %d", b, got, e2, at2)
				}
				if got, e := cjson.Print(v); !bytes.Equal(got, want) || e != api.OK {
					t.Errorf("Print = %s, %d", got, e)
				}
				if got, ok := cjson.Get(v, "b", "0"); !same(got, num(1)) || !ok {
					t.Errorf("Get = %v, %v", got, ok)
				}
			}
		})
	}
	group.Wait()
}
