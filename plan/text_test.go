package plan_test

import (
	"fmt"
	"math/rand"
	"strings"
	"testing"

	"annals/api"
	"annals/plan"
)

const orderText = "order: reserve*3~release, charge~refund, ship*2!, notify"

// hold holds Parse of a line against the second reading, and what is read against the line, and tells the error.
func hold(t *testing.T, line string) api.Errno {
	t.Helper()
	want, wantE, wantAt := secondParse(line)
	p, e, at := plan.Parse(line)
	if !samePlan(p, want) || e != wantE || at != wantAt {
		t.Fatalf("Parse(%q) = %+v, %d, %d, not %+v, %d, %d", line, p, e, at, want, wantE, wantAt)
	}
	if s, e2 := plan.Print(p); e == api.OK && (s != line || e2 != api.OK) {
		t.Fatalf("%q is read, and written as %q, %d", line, s, e2)
	}
	return e
}

// Promises 15.2, 15.3: texts of plans, and the plans.
func TestParse(t *testing.T) {
	for _, c := range []struct {
		line string
		p    api.Plan
	}{
		{orderText, order()},
		{"a: b~c", api.Plan{Name: "a", Steps: []api.Step{{Do: "b", Undo: "c", Tries: 1}}}},
		{"a: b!", api.Plan{Name: "a", Pivot: 1, Steps: []api.Step{{Do: "b", Tries: 1}}}},
		{"a: b*2!", api.Plan{Name: "a", Pivot: 1, Steps: []api.Step{{Do: "b", Tries: 2}}}},
		{"a: b*2~c, d!, e, f", api.Plan{Name: "a", Pivot: 2, Steps: []api.Step{{Do: "b", Undo: "c", Tries: 2}, {Do: "d", Tries: 1}, {Do: "e"}, {Do: "f"}}}},
		{"a: b*1000~c, d~e", api.Plan{Name: "a", Steps: []api.Step{{Do: "b", Undo: "c", Tries: 1000}, {Do: "d", Undo: "e", Tries: 1}}}},
		{"a: a~b", api.Plan{Name: "a", Steps: []api.Step{{Do: "a", Undo: "b", Tries: 1}}}},
		{"é-1: β.x*20~中_2", api.Plan{Name: "é-1", Steps: []api.Step{{Do: "β.x", Undo: "中_2", Tries: 20}}}},
	} {
		p, e, at := plan.Parse(c.line)
		if !samePlan(p, c.p) || e != api.OK || at != 0 {
			t.Errorf("Parse(%q) = %+v, %d, %d", c.line, p, e, at)
		}
		if s, e := plan.Print(c.p); s != c.line || e != api.OK {
			t.Errorf("Print(%+v) = %q, %d", c.p, s, e)
		}
	}
}

// many is a plan's text with so many steps.
func many(n int) string {
	var all []string
	for i := range n {
		all = append(all, fmt.Sprintf("b%d~c%d", i, i))
	}
	return "a: " + strings.Join(all, ", ")
}

// Promise 15.3: lines that are no plan's text: the error, and its place.
func TestParseRefuses(t *testing.T) {
	full := many(32)
	pad := func(s string, n int) string { return s + strings.Repeat(" ", n-len(s)) }
	for _, c := range []struct {
		line string
		e    api.Errno
		at   int
	}{
		// The words can't be cut, or are too many bytes.
		{pad("a: b~c", 65537), api.ErrLong, 65536},
		{strings.Repeat("\xff", 65537), api.ErrLong, 65536},
		{pad("a: b~c #", 65537), api.ErrLong, 65536},
		{pad("a: b~c", 65536), api.ErrLine, 6},
		{pad("a: b~c #", 65536), api.ErrLine, 6},
		{"a: b~c\n", api.ErrRune, 6},
		{": \xff", api.ErrUTF8, 2},
		{"a a a a $", api.ErrRune, 8},
		{"a: b*01~c", api.ErrNumber, 5},
		{"a: b*-0~c", api.ErrNumber, 5},
		{"a: b*9223372036854775808~c", api.ErrNumber, 5},
		{"a: b*2c", api.ErrRune, 6},
		{`a: "b`, api.ErrOpen, 3},
		{`a: "\q"`, api.ErrEscape, 3},
		{"a: " + strings.Repeat("b", 49), api.ErrNameLong, 51},
		// A word that can't stand where it stands, or none where one must.
		{"", api.ErrLine, 0},
		{" \t", api.ErrLine, 2},
		{"# all", api.ErrLine, 5},
		{"a", api.ErrLine, 1},
		{"a # b", api.ErrLine, 5},
		{"a:", api.ErrLine, 2},
		{"a: # b", api.ErrLine, 6},
		{"a: b~c, ", api.ErrLine, 8},
		{"a: b~c,", api.ErrLine, 7},
		{"a: b*", api.ErrLine, 5},
		{"a: b~", api.ErrLine, 5},
		{"a: b*2~  ", api.ErrLine, 9},
		{"7: b~c", api.ErrLine, 0},
		{`"a": b~c`, api.ErrLine, 0},
		{": b~c", api.ErrLine, 0},
		{"a; b", api.ErrLine, 1},
		{"a b", api.ErrLine, 2},
		{`a ":" b~c`, api.ErrLine, 2},
		{"a:: b~c", api.ErrLine, 2},
		{"a: 7~c", api.ErrLine, 3},
		{"a: ~c", api.ErrLine, 3},
		{"a: !", api.ErrLine, 3},
		{"a: b*c", api.ErrLine, 5},
		{`a: b*"2"~c`, api.ErrLine, 5},
		{"a: b*2*3~c", api.ErrLine, 6},
		{"a: b**2~c", api.ErrLine, 5},
		{"a: b~c*2", api.ErrLine, 6},
		{"a: b~7", api.ErrLine, 5},
		{`a: b~"c"`, api.ErrLine, 5},
		{"a: b~~c", api.ErrLine, 5},
		{"a: b~c~d", api.ErrLine, 6},
		{"a: b~c!", api.ErrLine, 6},
		{"a: b!~c", api.ErrLine, 5},
		{"a: b!*2", api.ErrLine, 5},
		{"a: b!!", api.ErrLine, 5},
		{"a: b!, c!", api.ErrLine, 8},
		{"a: b!, c*2!", api.ErrLine, 10},
		{"a: b~c d~e", api.ErrLine, 7},
		{"a: b~c; d~e", api.ErrLine, 6},
		{"a: b~c, , d~e", api.ErrLine, 8},
		{`a: b~c "," d~e`, api.ErrLine, 7},
		{`a: b "~" c`, api.ErrLine, 5},
		{"a: b, b, b, (", api.ErrLine, 12}, // ahead of what Check says of the steps
		{"a: b!, b!", api.ErrLine, 8},
		{full + ", d~e, f!, g!", api.ErrLine, len(full) + 12},
		{full + ", d~e,", api.ErrLine, len(full) + 6},
		// What Check says.
		{"a: b", api.ErrUndo, 3},
		{"a:b", api.ErrUndo, 2}, // ahead of the blank that is missing
		{"a: b~c, d, e!", api.ErrUndo, 8},
		{"a: b!, c~d", api.ErrUndo, 7},
		{"a: b~c, d!, é, f~g", api.ErrUndo, 16},
		{"a: b!, c*2", api.ErrBound, 7},
		{"a: b!, c*1", api.ErrBound, 7},
		{"a: b!, c*-1", api.ErrBound, 7},
		{"a: b*0~c", api.ErrBound, 3},
		{"a: b*-3~c", api.ErrBound, 3},
		{"a: b*1001~c", api.ErrBound, 3},
		{"a: b*0!", api.ErrBound, 3},
		{"a: b*9223372036854775807!", api.ErrBound, 3},
		{"a: b*-9223372036854775808!", api.ErrBound, 3},
		{"a: b~b", api.ErrAgain, 3},
		{"a: b~c, d~c", api.ErrAgain, 8},
		{"a: b~c, c~d", api.ErrAgain, 8},
		{"a: b~c, d~b", api.ErrAgain, 8},
		{"a: b!, c, b", api.ErrAgain, 10},
		{"a: b~c, b!", api.ErrAgain, 8},
		{"a: b*0, b", api.ErrUndo, 3},
		{full + ", d~e", api.ErrMany, len(full) + 2},
		{full + ", d", api.ErrMany, len(full) + 2},
		{full + ",d~e, f", api.ErrMany, len(full) + 1},
		{strings.Replace(full, "~c0", "", 1) + ", d~e", api.ErrMany, len(full) - 1},
		{strings.Replace(full, "~c0", "*0~b0", 1) + ", d!", api.ErrMany, len(full) + 4},
		// Words that say a plan, but not as it is written.
		{"a: b*1~c", api.ErrLine, 4},
		{"a: b*1!", api.ErrLine, 4},
		{"a: b!, c*0", api.ErrLine, 8},
		{"a: b!, c*0, d", api.ErrLine, 8},
		{"a: b~c,d~e", api.ErrLine, 7},
		{"a : b~c", api.ErrLine, 1},
		{"a:b~c", api.ErrLine, 2},
		{" a: b~c", api.ErrLine, 0},
		{"a:  b~c", api.ErrLine, 3},
		{"a:\tb~c", api.ErrLine, 2},
		{"a: b ~c", api.ErrLine, 4},
		{"a: b~ c", api.ErrLine, 5},
		{"a: b* 2~c", api.ErrLine, 5},
		{"a: b !", api.ErrLine, 4},
		{"a: b~c ", api.ErrLine, 6},
		{"a: b~c\t", api.ErrLine, 6},
		{"a: b~c#", api.ErrLine, 6},
		{"a: b~c # x", api.ErrLine, 6},
		{"a: b~c , d~e", api.ErrLine, 6},
		{"a: b~c,  d~e", api.ErrLine, 8},
		{"é: b~c  ", api.ErrLine, 7},
	} {
		p, e, at := plan.Parse(c.line)
		if e != c.e || at != c.at || !samePlan(p, api.Plan{}) {
			t.Errorf("Parse(%.60q) = %+v, %d, %d, not %d, %d", c.line, p, e, at, c.e, c.at)
		}
		hold(t, c.line)
	}
}

// Promise 15.3: up to 32 steps, each of the greatest, are read as they are written.
func TestParseGreatest(t *testing.T) {
	runes := []rune(wide)
	name := func(i int) string {
		runes[0], runes[47] = 0x4e00+rune(i), 0x20000+rune(i)
		return string(runes)
	}
	for pivot := range api.MaxSteps + 1 {
		p := api.Plan{Name: wide, Pivot: pivot}
		for i := range api.MaxSteps {
			s := api.Step{Do: name(2 * i), Undo: name(2*i + 1), Tries: 1000}
			if pivot > 0 && i+1 >= pivot {
				s.Undo = ""
			}
			if pivot > 0 && i+1 > pivot {
				s.Tries = 0
			}
			p.Steps = append(p.Steps, s)
		}
		line, e := plan.Print(p)
		if line != secondText(p) || e != api.OK {
			t.Fatalf("pivot %d: Print = %q, %d", pivot, line, e)
		}
		if back, e, at := plan.Parse(line); !samePlan(back, p) || e != api.OK || at != 0 {
			t.Errorf("pivot %d: Parse = %+v, %d, %d", pivot, back, e, at)
		}
		hold(t, line+", x")
	}
	hold(t, many(32))
	hold(t, many(33))
}

// Promise 15.3: lines full of short steps, up to the last byte that a line may have.
func TestParseLongest(t *testing.T) {
	for _, part := range []string{",b", ", b", "!", "~c", "*2", "a", ":", " ", "\"", "#"} {
		line := "a: b~c" + strings.Repeat(part, 65536)
		for _, n := range []int{65535, 65536, 65537} {
			p, e, at := plan.Parse(line[:n])
			if e == api.OK || !samePlan(p, api.Plan{}) || (e == api.ErrLong) != (n > 65536) || at > n {
				t.Errorf("%q again and again, %d bytes: %+v, %d, %d", part, n, p, e, at)
			}
		}
	}
	if _, e, at := plan.Parse("a: b~c" + strings.Repeat(", d", 20000)); e != api.ErrMany || at != 8+31*3 {
		t.Errorf("20001 steps: %d, %d", e, at)
	}
	if _, e, at := plan.Parse("a: b~c" + strings.Repeat(", d", 20000) + ";"); e != api.ErrLine || at != 60006 {
		t.Errorf("20001 steps and a wrong word: %d, %d", e, at)
	}
}

// Promise 15.3: all lines of up to so many parts, behind several beginnings: the answers are those of the second reading.
func TestParseAll(t *testing.T) {
	t.Parallel()
	seen := map[api.Errno]int{}
	var walk func(line string, parts []string, n int)
	walk = func(line string, parts []string, n int) {
		seen[hold(t, line)]++
		for _, p := range parts {
			if n > 0 {
				walk(line+p, parts, n-1)
			}
		}
	}
	walk("", []string{"a", "7", `"a"`, ":", ",", "*", "~", "!", ";", " ", "#"}, 4)
	walk("a:", []string{" b", "c", "2", "*", "~", "!", ",", " ", `"x"`}, 5)
	walk("a: b", []string{"~c", "~d", "*2", "*0", "!", ", e", ", b", ",f", " "}, 5)
	walk("a: b!", []string{", c", ", d", "*2", "*0", "*1", "~e", "!", " #"}, 4)
	for _, e := range []api.Errno{api.OK, api.ErrLine, api.ErrUndo, api.ErrBound, api.ErrAgain, api.ErrRune} {
		if seen[e] == 0 {
			t.Errorf("no line is answered by %d", e)
		}
	}
}

// Promise 15.3: lines with each byte in turn taken away, changed for others, or others put ahead of it.
func TestParseEveryChange(t *testing.T) {
	t.Parallel()
	put := []string{" ", "\t", "a", "1", "-", ":", ",", ";", "~", "!", "*", "(", "#", "\"", "\xff", "é", "\n", "$"}
	for _, line := range []string{orderText, "a: b*2~c, d!, e, f", "é: β*10~中, x.y!"} {
		for i := range len(line) + 1 {
			for _, s := range append(put, "") {
				hold(t, line[:i]+s+line[i:])
				if i < len(line) {
					hold(t, line[:i]+s+line[i+1:])
				}
			}
			hold(t, line[:i])
			hold(t, line[i:])
		}
	}
}

// drawPlan is a plan that is mostly sound.
func drawPlan(r *rand.Rand) api.Plan {
	names := []string{"a", "b", "c", "d", "e", "f", "g", "h", "é", "中", "x-1", "y_.2"}
	r.Shuffle(len(names), func(i, k int) { names[i], names[k] = names[k], names[i] })
	p := api.Plan{Name: names[r.Intn(len(names))]}
	n := 1 + r.Intn(6)
	if r.Intn(2) == 0 {
		p.Pivot = 1 + r.Intn(n)
	}
	for i := range n {
		s := api.Step{Do: names[2*i], Tries: []int{1, 1, 2, 7, 1000}[r.Intn(5)]}
		if p.Pivot == 0 || i+1 < p.Pivot {
			s.Undo = names[2*i+1]
		}
		if p.Pivot > 0 && i+1 > p.Pivot {
			s.Tries = 0
		}
		p.Steps = append(p.Steps, s)
	}
	if r.Intn(3) > 0 {
		return p
	}
	s := &p.Steps[r.Intn(n)]
	switch r.Intn(6) {
	case 0:
		p.Pivot = r.Intn(9) - 1
	case 1:
		s.Tries = []int{-1, 0, 1, 1001}[r.Intn(4)]
	case 2:
		s.Do = names[r.Intn(len(names))]
	case 3:
		s.Undo = names[r.Intn(len(names))]
	case 4:
		s.Undo = ""
	case 5:
		s.Do = "1"
	}
	return p
}

// Promises 15.1, 15.2, 15.3: drawn plans are checked and written as by the second reading, and read as they were.
func TestBackAndForth(t *testing.T) {
	t.Parallel()
	r := rand.New(rand.NewSource(15))
	good := 0
	for range 20000 {
		p := drawPlan(r)
		want, _ := secondFault(p)
		line, e := plan.Print(p)
		if e != want || plan.Check(p) != want || want != api.OK && line != "" {
			t.Fatalf("%+v: %q, %d, not %d", p, line, e, want)
		}
		if want != api.OK {
			continue
		}
		good++
		if back, e, at := plan.Parse(line); line != secondText(p) || !samePlan(back, p) || e != api.OK || at != 0 {
			t.Fatalf("%+v is written as %q, and read as %+v, %d, %d", p, line, back, e, at)
		}
	}
	if good < 5000 {
		t.Errorf("only %d plans", good)
	}
}
