package plan_test

import (
	"fmt"
	"math/rand"
	"slices"
	"sort"
	"strings"
	"testing"

	"annals/api"
	"annals/plan"
)

// Promises 15.8, 15.9: a book finds the plans of its lines, and no other, and tells their names rising byte by byte.
func TestBook(t *testing.T) {
	lines := []string{"order: a~b", "é: a!", "a: x!", "Z: y!, a", "a-1: x!", "a.1: x!", "aa: x!", "ß: x!", "中: x!", "\U00010400: x!"}
	k, e, at := plan.NewBook(lines...)
	if k == nil || e != api.OK || at != 0 {
		t.Fatalf("NewBook = %v, %d, %d", k, e, at)
	}
	if got, want := k.Names(), []string{"Z", "a", "a-1", "a.1", "aa", "order", "ß", "é", "中", "\U00010400"}; !slices.Equal(got, want) {
		t.Errorf("Names = %q", got)
	}
	for _, line := range lines {
		want, _, _ := plan.Parse(line)
		if p, is := k.Find(want.Name); !is || !samePlan(p, want) {
			t.Errorf("Find(%q) = %+v, %v", want.Name, p, is)
		}
	}
	for _, name := range []string{"", "b", "x", "A", "a ", "orde", "orders", "\xff", strings.Repeat("a", 1<<20), "order: a~b"} {
		if p, is := k.Find(name); is || !samePlan(p, api.Plan{}) {
			t.Errorf("Find(%.20q) = %+v, %v", name, p, is)
		}
	}
}

// Promises 15.8, 15.9: no lines make a book without a plan.
func TestEmptyBook(t *testing.T) {
	for _, lines := range [][]string{nil, {}} {
		k, e, at := plan.NewBook(lines...)
		if k == nil || e != api.OK || at != 0 {
			t.Fatalf("NewBook = %v, %d, %d", k, e, at)
		}
		if p, is := k.Find("a"); is || !samePlan(p, api.Plan{}) || len(k.Names()) != 0 {
			t.Errorf("a book without a plan has %+v, %q", p, k.Names())
		}
	}
}

// Promise 15.8: the first line that is refused decides, and its number is told.
func TestNoBook(t *testing.T) {
	for _, c := range []struct {
		lines []string
		e     api.Errno
		at    int
	}{
		{[]string{"a: b!", "c: b!", "a: d!"}, api.ErrTwice, 2},
		{[]string{"a: b!", "a: b!"}, api.ErrTwice, 1},
		{[]string{"a: b!", "a: d"}, api.ErrUndo, 1},
		{[]string{"a: b!", "a: b! "}, api.ErrLine, 1},
		{[]string{"a: b!", "c", "a: d!"}, api.ErrLine, 1},
		{[]string{"a: b!", "c: d!", "a: d!", "c"}, api.ErrTwice, 2},
		{[]string{"a: b!", "c: d!", "a: d!", "c: d!"}, api.ErrTwice, 2},
		{[]string{""}, api.ErrLine, 0},
		{[]string{"a: b!", ""}, api.ErrLine, 1},
		{[]string{"a: b!", "b: c!", "c: d!", "d: \xff"}, api.ErrUTF8, 3},
		{[]string{"a: b!", "b: c*01!"}, api.ErrNumber, 1},
		{[]string{"a: b!", strings.Repeat("x", 65537)}, api.ErrLong, 1},
		{[]string{many(33)}, api.ErrMany, 0},
		{[]string{"a: b*0!"}, api.ErrBound, 0},
		{[]string{"x: b!", "a: b~b"}, api.ErrAgain, 1},
	} {
		if k, e, at := plan.NewBook(c.lines...); k != nil || e != c.e || at != c.at {
			t.Errorf("NewBook(%.60q) = %v, %d, %d, not %d, %d", c.lines, k, e, at, c.e, c.at)
		}
	}
}

// Promises 15.8, 15.9: drawn books, held against a list of lines; a book of very many plans too.
func TestBooksDrawn(t *testing.T) {
	r := rand.New(rand.NewSource(158))
	for range 2000 {
		var lines, names []string
		wantE, wantAt := api.OK, 0
		for i := range r.Intn(6) {
			p := drawPlan(r)
			line, e := plan.Print(p)
			if e != api.OK {
				line = "a: b"
				e = api.ErrUndo
			} else if slices.Contains(names, p.Name) {
				e = api.ErrTwice
			}
			if e != api.OK && wantE == api.OK {
				wantE, wantAt = e, i
			}
			lines, names = append(lines, line), append(names, p.Name)
		}
		k, e, at := plan.NewBook(lines...)
		if (k == nil) != (wantE != api.OK) || e != wantE || at != wantAt {
			t.Fatalf("NewBook(%q) = %v, %d, %d, not %d, %d", lines, k, e, at, wantE, wantAt)
		}
		if k == nil {
			continue
		}
		for i, name := range names {
			p, is := k.Find(name)
			if line, _ := plan.Print(p); !is || line != lines[i] {
				t.Fatalf("Find(%q) of %q = %+v, %v", name, lines, p, is)
			}
		}
		sort.Strings(names)
		if !slices.Equal(k.Names(), names) {
			t.Fatalf("Names of %q = %q", lines, k.Names())
		}
	}
	var lines, names []string
	for i := range 5000 {
		names = append(names, fmt.Sprintf("p%d", i))
		lines = append(lines, names[i]+": a!")
	}
	k, e, at := plan.NewBook(lines...)
	sort.Strings(names)
	if e != api.OK || at != 0 || !slices.Equal(k.Names(), names) {
		t.Errorf("a book of 5000 plans: %d, %d", e, at)
	}
	if k, e, at = plan.NewBook(append(lines, "p0: b!")...); k != nil || e != api.ErrTwice || at != 5000 {
		t.Errorf("a book of 5000 plans, and one again: %v, %d, %d", k, e, at)
	}
}
