package cjson_test

import (
	"math/rand"
	"strconv"
	"strings"
	"testing"

	"annals/api"
	"annals/cjson"
)

// Promise 13.5: the chapter's examples, and steps that look like numbers or names and are none.
func TestGet(t *testing.T) {
	v := object("a|b||0|\xff", list(num(5), num(6)), text("x"), object("c", list(list(num(7)))), flag(1), null)
	cases := []struct {
		path string // parted by slashes
		want api.Value
		ok   bool
	}{
		{"a", list(num(5), num(6)), true}, {"a/0", num(5), true}, {"a/1", num(6), true},
		{"a/01", null, false}, {"a/2", null, false}, {"a/-1", null, false}, {"a/-0", null, false}, {"a/+1", null, false}, {"a/00", null, false}, {"a/", null, false},
		{"a/ 1", null, false}, {"a/1 ", null, false}, {"a/0x1", null, false}, {"a/1e0", null, false}, {"a/1_0", null, false}, {"a/\u0661", null, false}, {"a/a", null, false},
		{"a/9223372036854775807", null, false}, {"a/9223372036854775808", null, false}, {"a/18446744073709551616", null, false}, {"a/18446744073709551617", null, false}, {"a/" + strings.Repeat("1", 1000), null, false},
		{"b", text("x"), true}, {"b/0", null, false}, {"b/", null, false}, {"b/x", null, false},
		{"", object("c", list(list(num(7)))), true}, {"/c/0/0", num(7), true}, {"/c/0/0/0", null, false}, {"/c/0/1", null, false}, {"/c/1/0", null, false}, {"//", null, false},
		{"0", flag(1), true}, {"1", null, false}, {"0/0", null, false}, {"\xff", null, true}, {"\xff/0", null, false}, {"\xfe", null, false}, {"A", null, false}, {"a/0/0", null, false}, {"c", null, false},
	}
	for _, c := range cases {
		if got, ok := cjson.Get(v, strings.Split(c.path, "/")...); !same(got, c.want) || ok != c.ok {
			t.Errorf("Get(.., %q) = %v, %v", c.path, got, ok)
		}
	}
	for _, path := range [][]string{nil, {}} {
		if got, ok := cjson.Get(v, path...); !same(got, v) || !ok {
			t.Errorf("Get without a step = %v, %v", got, ok)
		}
	}
}

// Promise 13.5: Get asks of no value whether it is sound: not of those on its way, not of the one that it reaches.
func TestGetOfUnsoundValues(t *testing.T) {
	odd := api.Value{Kind: 9, Int: 3, Text: "\xff", Names: []string{"a", "a", "b"}, Items: []api.Value{num(1), flag(7)}}
	cases := []struct {
		v    api.Value
		path []string
		want api.Value
		ok   bool
	}{
		{odd, nil, odd, true},
		{odd, []string{"a"}, null, false},
		{odd, []string{"0"}, null, false},
		{list(odd, odd), []string{"1"}, odd, true},
		{object("a|a|b", num(1), num(2)), []string{"a"}, num(1), true},
		{object("a|a|b", num(1), num(2)), []string{"b"}, null, false},
		{object("a|a"), []string{"a"}, null, false},
		{object("a", num(1), num(2)), []string{"a"}, num(1), true},
		{object("a", num(1), num(2)), []string{"1"}, null, false},
		{api.Value{Kind: api.JList, Names: []string{"a"}, Items: []api.Value{num(1)}}, []string{"a"}, null, false},
		{api.Value{Kind: api.JList, Names: []string{"1"}, Items: []api.Value{num(1), num(2)}}, []string{"1"}, num(2), true},
		{api.Value{Names: []string{"a"}, Items: []api.Value{num(1)}}, []string{"a"}, null, false},
		{api.Value{Kind: api.JText, Items: []api.Value{num(1)}}, []string{"0"}, null, false},
		{api.Value{Kind: -4, Items: []api.Value{num(1)}}, []string{"0"}, null, false},
		{object("a", flag(9)), []string{"a"}, flag(9), true},
		{wrapped(40, num(3)), strings.Split(strings.Repeat("0 ", 39)+"0", " "), num(3), true},
		{wrapped(40, num(3)), nil, wrapped(40, num(3)), true},
	}
	for i, c := range cases {
		if got, ok := cjson.Get(c.v, c.path...); !same(got, c.want) || ok != c.ok {
			t.Errorf("row %d: Get(%v, %q) = %v, %v", i, c.v, c.path, got, ok)
		}
	}
	if got, ok := cjson.Get(wrapped(1<<16-1, odd)); !ok || len(got.Items) != 1 {
		t.Error("Get of a value that is nested very deep")
	}
}

// reach goes down one step as the chapter says it: by asking every item for its name or its number.
func reach(v api.Value, step string) (api.Value, bool) {
	for i := range max(len(v.Names), len(v.Items)) {
		switch {
		case v.Kind == api.JObject && i < len(v.Names) && v.Names[i] == step, v.Kind == api.JList && strconv.Itoa(i) == step:
			if i < len(v.Items) {
				return v.Items[i], true
			}
			return null, false
		}
	}
	return null, false
}

// Promise 13.5: from step to step, of values sound and not, along paths that lead somewhere and others.
func TestGetStepByStep(t *testing.T) {
	rnd := rand.New(rand.NewSource(135))
	far := 0
	for range 20000 {
		v := list(anyValue(rnd, 6), object("a|b", anyValue(rnd, 6), anyValue(rnd, 6)))
		if rnd.Intn(2) == 0 {
			v = spoiled(rnd, v)
		}
		want, ok, path := v, true, []string{}
		for ok && rnd.Intn(10) > 0 {
			step := pick(rnd, "0", "1", "2", "01", "", "a", "b", "-1", "9999999999999999999")
			switch {
			case rnd.Intn(8) == 0:
			case len(want.Names) > 0:
				step = pick(rnd, want.Names...)
			case len(want.Items) > 0:
				step = strconv.Itoa(rnd.Intn(len(want.Items)))
			}
			want, ok = reach(want, step)
			path = append(path, step)
		}
		if ok && len(path) > 2 {
			far++
		}
		if got, is := cjson.Get(v, path...); !same(got, want) || is != ok {
			t.Fatalf("Get(%v, %q) = %v, %v, not %v, %v", v, path, got, is, want, ok)
		}
	}
	if far < 300 {
		t.Errorf("only %d paths lead down three steps or more", far)
	}
}
