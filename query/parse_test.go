package query_test

import (
	"fmt"
	"math/rand"
	"slices"
	"strings"
	"testing"

	"annals/api"
	"annals/query"
	"annals/text"
)

// hold holds Parse of a text against the second reading, and what it reads against Check and Print.
func hold(t *testing.T, s string) api.Errno {
	t.Helper()
	q, e, at := query.Parse(s)
	want, wantE, wantAt := secondParse(s)
	if e != wantE || at != wantAt || !same(q, want) {
		t.Fatalf("Parse(%.300q) = %d, %d, not %d, %d: %+v, %+v", s, e, at, wantE, wantAt, q, want)
	}
	if e == api.OK {
		back(t, q)
	} else if !same(q, api.Query{}) {
		t.Fatalf("Parse(%.300q), which is refused, tells %+v", s, q)
	}
	return e
}

// back holds Parse of Print against the query, and Print against its second reading.
func back(t *testing.T, q api.Query) {
	t.Helper()
	if e := query.Check(q); e != api.OK {
		t.Fatalf("Check(%+v) = %d", q, e)
	}
	s, e := query.Print(q)
	if e != api.OK || s != secondPrint(q) {
		t.Fatalf("Print(%+v) = %q, %d, not %q", q, s, e, secondPrint(q))
	}
	if again, e, at := query.Parse(s); len(s) <= api.MaxScript && (e != api.OK || at != 0 || !same(again, q)) {
		t.Fatalf("Parse(%.300q) = %+v, %d, %d", s, again, e, at)
	}
}

type refusal struct {
	text string
	e    api.Errno
	at   int
}

func refuse(t *testing.T, all []refusal) {
	t.Helper()
	for _, c := range all {
		q, e, at := query.Parse(c.text)
		if e != c.e || at != c.at || e != api.OK && !same(q, api.Query{}) {
			t.Errorf("Parse(%.100q) = %+v, %d, %d, not %d, %d", c.text, q, e, at, c.e, c.at)
		}
		hold(t, c.text)
	}
}

// Promise 20.2: the chapter's examples.
func TestParseExamples(t *testing.T) {
	refuse(t, []refusal{
		{"", api.ErrQuery, 0},
		{"from logs select a", api.ErrSource, 5},
		{"from records", api.ErrQuery, 12},
		{"from records ", api.ErrQuery, 13},
		{"from records where count() > 1 select at", api.ErrType, 19},
		{"from records select id", api.ErrColumn, 20},
		{"from records where saga select at", api.ErrType, 19},
		{`from records where saga = "5" selec at`, api.ErrType, 19},
		{"from records where saga = select at", api.ErrQuery, 26},
		{"from records where kind < true select at", api.ErrType, 19},
		{"from records select at, count()", api.ErrGroup, 24},
		{"from records group by kind select at", api.ErrGroup, 34},
		{"from records select avg(at)", api.ErrQuery, 20},
		{"from records select sum(kind)", api.ErrType, 24},
		{"from records select at limit -1", api.ErrBounds, 29},
		{"from records select at limit 01", api.ErrNumber, 29},
		{"from records select at ; drop", api.ErrToken, 23},
		{"from records where at ! 3 select at", api.ErrToken, 22},
		{"from records select at at", api.ErrQuery, 23},
	})
}

// Promise 20.2, its second rule: what is no token, and where, comes ahead of all that the tokens say.
func TestTokens(t *testing.T) {
	name48 := strings.Repeat("\u00e9", 48)
	refuse(t, []refusal{
		{"7\"", api.ErrToken, 1}, {`a"\q"`, api.ErrToken, 1}, {`"\q"`, api.ErrEscape, 0}, {`from "a`, api.ErrOpen, 5}, {"from \"a\x01\"", api.ErrRaw, 5},
		{`from "\x41"`, api.ErrCanon, 5}, {`x "\u{41}" "\q"`, api.ErrCanon, 2}, {"\"a\nb\"", api.ErrRaw, 0}, {"\"\u00ad\"", api.ErrRaw, 0}, {`"a""b"`, api.ErrToken, 3}, {`"a"b`, api.ErrToken, 3}, {`"a"7`, api.ErrToken, 3}, {`"a"-7`, api.ErrToken, 3},
		{"01", api.ErrNumber, 0}, {"01x", api.ErrNumber, 0}, {"00", api.ErrNumber, 0}, {"-0", api.ErrNumber, 0}, {"-01", api.ErrNumber, 0}, {" 9223372036854775808", api.ErrNumber, 1}, {" -9223372036854775809", api.ErrNumber, 1}, {strings.Repeat("9", 60000), api.ErrNumber, 0},
		{"9223372036854775807 -9223372036854775808 0 -1", api.ErrQuery, 0}, {"-", api.ErrToken, 0}, {"a - 1", api.ErrToken, 2}, {"--1", api.ErrToken, 0}, {"-x", api.ErrToken, 0}, {"7-1", api.ErrToken, 1}, {"7x", api.ErrToken, 1}, {"7.5", api.ErrToken, 1}, {"7_", api.ErrToken, 1}, {"+1", api.ErrToken, 0},
		{name48, api.ErrQuery, 0}, {name48 + "x", api.ErrNameLong, 96}, {"(" + name48 + "--;", api.ErrNameLong, 97}, {name48 + ";", api.ErrToken, 96}, {name48 + " ;", api.ErrToken, 97}, {"from " + strings.Repeat("a", 65000), api.ErrNameLong, 53},
		{"a;", api.ErrToken, 1}, {"\xff", api.ErrToken, 0}, {"a\xff", api.ErrToken, 1}, {"\ufffd", api.ErrToken, 0}, {"a\u00a0b", api.ErrToken, 1}, {"from\x00", api.ErrToken, 4}, {"from\vrecords", api.ErrToken, 4}, {"from\frecords", api.ErrToken, 4}, {"from#", api.ErrToken, 4}, {"_a", api.ErrToken, 0}, {".a", api.ErrToken, 0},
		{"!", api.ErrToken, 0}, {"a!", api.ErrToken, 1}, {"a! =", api.ErrToken, 1}, {"!!=", api.ErrToken, 0}, {"!=!", api.ErrToken, 2}, {"<>", api.ErrQuery, 0}, {"=!", api.ErrToken, 1}, {"<!", api.ErrToken, 1}, {"a'", api.ErrToken, 1}, {"*", api.ErrToken, 0}, {"/", api.ErrToken, 0}, {":", api.ErrToken, 0}, {"~", api.ErrToken, 0},
		{"from logs 01", api.ErrNumber, 10}, {"from logs \xff", api.ErrToken, 10}, {"select select \"", api.ErrOpen, 14}, {`from records where kind="a"and kind="b" select at`, api.ErrToken, 27}, {"from records where at=1and at=2 select at", api.ErrToken, 23}, {"\u4e2d", api.ErrQuery, 0}, {"\u4e2d\xe4\xb8", api.ErrToken, 3},
	})
	for _, ok := range []string{
		"from records where at=1 select at", "from records where at<=1 and at>=2 and at!=3 and at<4 and at>5 select at", "from records where at in(1,2)and(at=3)select at", "from records where at=-1 select at",
		"\t\n\r from\trecords\nselect\rat\r\n", `from records where kind="a" and(kind="b")select at`, "from records where(at = 1)select at", "from records where not(at = 1)select at", "from records select count( ),min(at),max ( at )", "from records where at<-1 select at",
	} {
		if e := hold(t, ok); e != api.OK {
			t.Errorf("Parse(%q) = %d", ok, e)
		}
	}
	// Each single rune of the first blocks, and each byte, at once behind a name, an integer, a literal, a sign, and by itself.
	for _, ahead := range []string{"a", "7", `"x"`, "(", "<", "", "from records where at =", "from records select at"} {
		for r := range rune(0x3000) {
			hold(t, ahead+string(r)+" =")
		}
		for b := range 256 {
			hold(t, ahead+string([]byte{byte(b)}))
			hold(t, ahead+string([]byte{byte(b)})+"= 1")
		}
	}
}

// Promise 20.2, its third rule: what may not stand, and where.
func TestGrammar(t *testing.T) {
	where, sel := "from records where ", "from records select "
	refuse(t, []refusal{
		{"form records select at", api.ErrQuery, 0}, {"From records select at", api.ErrQuery, 0}, {`"from" records select at`, api.ErrQuery, 0}, {"from", api.ErrQuery, 4}, {"from (records) select at", api.ErrQuery, 5}, {`from "records" select at`, api.ErrQuery, 5}, {"from 7", api.ErrQuery, 5}, {"from Records select at", api.ErrSource, 5}, {"from select", api.ErrSource, 5},
		{"from records at", api.ErrQuery, 13}, {"from records, sagas select at", api.ErrQuery, 12}, {where, api.ErrQuery, 19}, {where + "select at", api.ErrColumn, 19}, {where + "and = 1 select at", api.ErrColumn, 19}, {where + "true select at", api.ErrColumn, 19}, {where + "At = 1 select at", api.ErrColumn, 19}, {where + "5 = at select at", api.ErrQuery, 19}, {where + `"at" = 1 select at`, api.ErrQuery, 19},
		{where + "not", api.ErrQuery, 22}, {where + "not = 5 select at", api.ErrQuery, 23}, {where + "(", api.ErrQuery, 20}, {where + "() select at", api.ErrQuery, 20}, {where + "(at = 1", api.ErrQuery, 26}, {where + "(at = 1 select at", api.ErrQuery, 27}, {where + "at = 1) select at", api.ErrQuery, 25}, {where + "at = 1 or", api.ErrQuery, 28}, {where + "at = 1 and select at", api.ErrColumn, 30}, {where + "at = 1 or or", api.ErrColumn, 29},
		{where + "at = at select at", api.ErrQuery, 24}, {where + "at = (1) select at", api.ErrQuery, 24}, {where + "at = = 1", api.ErrQuery, 24}, {where + "at = 1 2", api.ErrQuery, 26}, {where + "at =", api.ErrQuery, 23}, {where + "at = not", api.ErrQuery, 24}, {where + "at 5", api.ErrType, 19}, {where + "kind", api.ErrType, 19}, {where + "kind in", api.ErrQuery, 26}, {where + "kind in 5", api.ErrQuery, 27}, {where + "at in (", api.ErrQuery, 26}, {where + "at in ()", api.ErrQuery, 26}, {where + "at in (1", api.ErrQuery, 27}, {where + "at in (1 2)", api.ErrQuery, 28}, {where + "at in (1,)", api.ErrQuery, 28}, {where + "at in (1,", api.ErrQuery, 28}, {where + `at in (1, "a") select at`, api.ErrType, 19}, {where + `at in (1, "a" select at`, api.ErrQuery, 33}, {where + `at in (1, at)`, api.ErrQuery, 29}, {where + "at in (true)", api.ErrType, 19},
		{where + "kind starts 5", api.ErrQuery, 31}, {where + "kind starts", api.ErrQuery, 30}, {where + "kind contains true", api.ErrQuery, 33}, {where + "kind contains begin", api.ErrQuery, 33}, {where + `at starts "a"`, api.ErrType, 19}, {where + `at contains "a" x`, api.ErrType, 19}, {where + `kind has "a"`, api.ErrType, 19}, {where + "kind = 5", api.ErrType, 19}, {where + "at = true", api.ErrType, 19}, {where + "not at select at", api.ErrType, 23},
		{"from sagas where flight in (true) select id", api.ErrType, 17}, {"from sagas where flight < true select id", api.ErrType, 17}, {"from sagas where flight = 1 select id", api.ErrType, 17}, {`from sagas where flight starts "t" select id`, api.ErrType, 17}, {"from sagas where flight 5 select id", api.ErrQuery, 24}, {"from sagas where flight and select id", api.ErrColumn, 28}, {"from sagas where saga = 5 select id", api.ErrColumn, 17}, {"from sagas where data = 5 select id", api.ErrColumn, 17},
		{"from records group kind select kind", api.ErrQuery, 19}, {"from records group by select kind", api.ErrColumn, 22}, {"from records group by kind at select kind", api.ErrQuery, 27}, {"from records group by kind, select kind", api.ErrColumn, 28}, {"from records group by count() select kind", api.ErrQuery, 27}, {"from records group by kind, at, kind select x", api.ErrGroup, 32}, {"from records group by kind order by kind", api.ErrQuery, 27}, {"from records group by 5", api.ErrQuery, 22}, {"from records group by", api.ErrQuery, 21}, {"from records group by kind where at = 1 select kind", api.ErrQuery, 27},
		{sel, api.ErrQuery, 20}, {sel + "5", api.ErrQuery, 20}, {sel + "*", api.ErrToken, 20}, {sel + "(at)", api.ErrQuery, 20}, {sel + "at,", api.ErrQuery, 23}, {sel + "at,,at", api.ErrQuery, 23}, {sel + "select", api.ErrColumn, 20}, {sel + "sum", api.ErrColumn, 20}, {sel + "sum x", api.ErrColumn, 20}, {sel + "at (", api.ErrQuery, 20}, {sel + "Count()", api.ErrQuery, 20}, {sel + "5 (", api.ErrQuery, 20}, {sel + "( (", api.ErrQuery, 20}, {sel + "count(", api.ErrQuery, 26}, {sel + "count(at)", api.ErrQuery, 26}, {sel + "count(*)", api.ErrToken, 26}, {sel + "sum()", api.ErrQuery, 24}, {sel + "sum(", api.ErrQuery, 24}, {sel + "sum(x)", api.ErrColumn, 24}, {sel + "sum(5)", api.ErrQuery, 24}, {sel + "sum(kind", api.ErrQuery, 28}, {sel + "sum(kind at)", api.ErrQuery, 29}, {sel + "sum(sum(at))", api.ErrColumn, 24}, {sel + "sum(count)", api.OK, 0}, {sel + "sum(at) at", api.ErrQuery, 28},
		// A literal is never a word or a sign.
		{sel + `at "("`, api.ErrQuery, 23}, {sel + `x "("`, api.ErrColumn, 20}, {sel + `count "(" ")"`, api.ErrQuery, 26}, {sel + `count( ")"`, api.ErrQuery, 27}, {sel + `at "," at`, api.ErrQuery, 23}, {sel + `at "limit" 1`, api.ErrQuery, 23}, {where + `kind "=" "a" select at`, api.ErrType, 19}, {where + `at = "true" select at`, api.ErrType, 19}, {where + `"not" at = 1 select at`, api.ErrQuery, 19}, {where + `"(" at = 1`, api.ErrQuery, 19}, {where + `at "in" (1) select at`, api.ErrType, 19}, {where + `at = 1 "and" at = 2 select at`, api.ErrQuery, 26},
		{sel + "count(), at", api.ErrGroup, 29}, {sel + "count(), sum(kind)", api.ErrType, 33}, {sel + "at, sum(kind)", api.ErrType, 28}, {sel + "at, sum(at)", api.ErrGroup, 24}, {sel + "at, sum(at) x", api.ErrGroup, 24}, {"from records group by kind select kind, sum(at), at", api.ErrGroup, 49}, {"from records group by kind select count(), kind", api.OK, 0}, {"from sagas select max(flight)", api.ErrType, 22}, {"from sagas select sum(flight)", api.ErrType, 22}, {"from sagas select sum(name)", api.ErrType, 22}, {"from sagas select max(name), min(name), max(id), sum(id), count()", api.OK, 0}, {"from sagas group by flight select flight", api.OK, 0},
		{sel + "at order at", api.ErrQuery, 29}, {sel + "at order by", api.ErrQuery, 31}, {sel + "at order by at at", api.ErrQuery, 35}, {sel + "at order by at asc desc", api.ErrQuery, 39}, {sel + "at order by asc", api.ErrColumn, 32}, {sel + "at order by at,", api.ErrQuery, 35}, {sel + "at order by kind, count() desc", api.ErrGroup, 38}, {sel + "count() order by at", api.ErrGroup, 37}, {sel + "count() order by min(kind) desc, sum(kind)", api.ErrType, 57}, {sel + "at order by avg(at)", api.ErrQuery, 32}, {sel + "at order by at limit 1 order by at", api.ErrQuery, 43}, {"from records group by kind select count() order by at", api.ErrGroup, 51}, {"from records group by kind select count() order by kind, max(at)", api.OK, 0}, {"from sagas group by id select count() order by min(flight)", api.ErrType, 51},
		{sel + "at limit", api.ErrQuery, 28}, {sel + "at limit x", api.ErrQuery, 29}, {sel + `at limit "1"`, api.ErrQuery, 29}, {sel + "at limit -1 x", api.ErrBounds, 29}, {sel + "at limit 1 2", api.ErrQuery, 31}, {sel + "at limit 1 limit 1", api.ErrQuery, 31}, {sel + "at offset 1 limit 1", api.ErrQuery, 32}, {sel + "at offset -5", api.ErrBounds, 30}, {sel + "at limit 0 offset -9223372036854775808", api.ErrBounds, 38}, {sel + "at limit 9223372036854775807 offset 9223372036854775807", api.OK, 0}, {sel + "at offset", api.ErrQuery, 29}, {sel + "at where at = 1", api.ErrQuery, 23}, {sel + "at)", api.ErrQuery, 22},
	})
}

// Promises 20.2, 20.13: the lengths and depths at their bounds.
func TestBounds(t *testing.T) {
	list := func(n int, item, between string) string {
		return strings.Join(slices.Repeat([]string{item}, n), between)
	}
	where, sel := "from records where ", " select at"
	in := "from records where at in ("
	for _, c := range []refusal{
		{deep(16), api.OK, 0}, {deep(17), api.ErrNest, 35}, {where + strings.Repeat("not ", 16) + "at = 1" + sel, api.OK, 0}, {where + strings.Repeat("not ", 17) + "at = 1" + sel, api.ErrNest, 83}, {where + strings.Repeat("not ", 17), api.ErrNest, 83}, {where + strings.Repeat("not ", 16), api.ErrQuery, 83},
		{where + strings.Repeat("not(", 8) + "at = 1" + strings.Repeat(")", 8) + sel, api.OK, 0}, {where + strings.Repeat("not(", 8) + "not at = 1" + strings.Repeat(")", 8) + sel, api.ErrNest, 51}, {where + strings.Repeat("not(", 8) + "(at = 1)" + strings.Repeat(")", 8) + sel, api.ErrNest, 51},
		// What is closed does not count, nor do the parentheses of values and columns.
		{where + list(40, "(((not at = 1)))", " and ") + sel, api.OK, 0}, {where + list(40, "not not (at = 1)", " or ") + sel, api.OK, 0}, {where + strings.Repeat("(", 16) + "at in (1)" + strings.Repeat(")", 16) + " select count()", api.OK, 0}, {where + strings.Repeat("not ", 16) + "at = 1 and " + strings.Repeat("not ", 16) + "at = 1" + sel, api.OK, 0}, {where + strings.Repeat("(", 15) + "not at = 1 and (at = 1)" + strings.Repeat(")", 15) + sel, api.OK, 0}, {where + strings.Repeat("(", 15) + "not (at = 1) and at = 1" + strings.Repeat(")", 15) + sel, api.ErrNest, 38},
		{where + list(64, "at = 1", " and ") + sel, api.OK, 0}, {where + list(65, "at = 1", " and ") + sel, api.ErrItems, 19 + 64*11}, {where + list(64, "at = 1", " or ") + sel, api.OK, 0}, {where + list(65, "at = 1", " or ") + sel, api.ErrItems, 19 + 64*10}, {where + list(64, "at = 1 and at = 2", " or ") + sel, api.OK, 0}, {where + list(64, "at = 1", " and ") + " or " + list(64, "at = 1", " and ") + sel, api.OK, 0},
		{where + "(" + list(64, "at = 1", " and ") + ") and " + list(63, "at = 1", " and ") + sel, api.OK, 0}, {where + "(" + list(64, "at = 1", " and ") + ") and " + list(64, "at = 1", " and ") + sel, api.ErrItems, 19 + 706 + 63*11},
		{in + list(64, "1", ", ") + ")" + sel, api.OK, 0}, {in + list(65, "1", ", ") + ")" + sel, api.ErrItems, 26 + 3*64}, {in + list(64, "1", ", ") + ", ", api.ErrQuery, 26 + 3*64}, {in + list(64, "1", ", ") + ", )", api.ErrItems, 26 + 3*64}, {in + list(64, "1", ", ") + ", (", api.ErrItems, 26 + 3*64},
		{where + list(64, "at = 1", " and ") + " and ", api.ErrQuery, 19 + 64*11}, {where + list(64, "at = 1", " and ") + " and x", api.ErrItems, 19 + 64*11}, {where + list(64, "at = 1", " or ") + " or 5", api.ErrItems, 19 + 64*10}, {where + list(64, "at = 1", " or ") + " or", api.ErrQuery, 19 + 64*10 - 1},
		{where + strings.Repeat("(", 16) + list(64, "at = 1", " and ") + " and not", api.ErrItems, 35 + 64*11},
		{"from records select " + list(64, "at", ", "), api.OK, 0}, {"from records select " + list(65, "at", ", "), api.ErrItems, 20 + 64*4}, {"from records select " + list(64, "at", ", ") + ", count()", api.ErrItems, 20 + 64*4}, {"from records select " + list(64, "at", ", ") + ",", api.ErrQuery, 20 + 64*4 - 1},
		{"from records select at order by " + list(64, "at", ", "), api.OK, 0}, {"from records select at order by " + list(64, "at asc", ", ") + ", x", api.ErrItems, 32 + 64*8}, {"from records select at order by " + list(65, "at desc", ", "), api.ErrItems, 32 + 64*9},
		{strings.Repeat(" ", 65536), api.ErrQuery, 65536}, {strings.Repeat(" ", 65537), api.ErrLong, 65536}, {strings.Repeat("\xff", 65537), api.ErrLong, 65536}, {"from records select at" + strings.Repeat(" ", 65536-22), api.OK, 0}, {strings.Repeat(" ", 65536-22) + "from records select at ", api.ErrLong, 65536}, {strings.Repeat("\xff", 65536), api.ErrToken, 0}, {strings.Repeat("(", 65536), api.ErrQuery, 0}, {where + strings.Repeat("(", 65000), api.ErrNest, 35}, {strings.Repeat("x ", 1<<20), api.ErrLong, 65536},
		{`from records where data = "` + strings.Repeat("x", 65536-37) + `" select v`, api.OK, 0},
	} {
		refuse(t, []refusal{c})
	}
	// The group can't be too long without a field twice.
	refuse(t, []refusal{{"from sagas group by " + strings.Join(allFields(2), ", ") + " select count()", api.OK, 0}, {"from sagas group by " + strings.Join(allFields(2), ", ") + ", id select count()", api.ErrGroup, 22 + len(strings.Join(allFields(2), ", "))}})
}

// Promise 20.2: every field of every source, in all places and kinds of tests: the types fit as the chapter says.
func TestFields(t *testing.T) {
	for from, source := range map[int]string{1: "records", 2: "sagas"} {
		for _, f := range append(slices.Concat(allFields(1), allFields(2)), "x", "Flight", "fail-step", "not", "kinds") {
			for _, test := range []string{"", "= 1", "!= 1", "< 1", "<= 1", "> 1", ">= 1", "in (1)", "in (1, 2)", `in (1, "a")`, `= "a"`, `!= "a"`, `< "a"`, `<= "a"`, `> "a"`, `>= "a"`, `in ("a")`, `in ("a", true)`, `starts "a"`, `contains "a"`, "= true", "!= false", "< true", "<= true", "> true", ">= true", "in (true)"} {
				hold(t, fmt.Sprintf("from %s where %s %s select count()", source, f, test))
				hold(t, fmt.Sprintf("from %s where not (%s %s) select count()", source, f, test))
			}
			for _, c := range []string{"%s", "sum(%s)", "min(%s)", "max(%s)", "count(%s)"} {
				c = fmt.Sprintf(c, f)
				hold(t, fmt.Sprintf("from %s select %s", source, c))
				hold(t, fmt.Sprintf("from %s group by %s select %s", source, f, c))
				hold(t, fmt.Sprintf("from %s group by at select count(), %s", source, c))
				hold(t, fmt.Sprintf("from %s select at order by %s", source, c))
				hold(t, fmt.Sprintf("from %s select count() order by %s desc", source, c))
			}
			want := api.OK
			if typeOf(from, f) == 0 {
				want = api.ErrColumn
			}
			if _, e, _ := query.Parse("from " + source + " select " + f); e != want {
				t.Errorf("select %s of %s: %d", f, source, e)
			}
		}
	}
}

// Promises 20.2, 20.4: all short runs of tokens in the place of a condition, a list of columns, and all behind it.
func TestShortTexts(t *testing.T) {
	t.Parallel()
	seen := map[api.Errno]int{}
	var all func(ahead string, n int, words []string, behind string)
	all = func(ahead string, n int, words []string, behind string) {
		seen[hold(t, ahead+behind)]++
		if n > 0 {
			for _, w := range words {
				all(ahead+" "+w, n-1, words, behind)
			}
		}
	}
	all("from sagas where", 5, []string{"flight", "at", "not", "and", "or", "(", ")", "=", "1"}, " select id")
	all("from sagas where at in", 4, []string{"(", ")", ",", "1", "true", "at", "in", `"a"`}, " select id")
	all("from sagas select", 4, []string{"at", "count", "sum", "name", "(", ")", ","}, "")
	all("from sagas select count()", 4, []string{"order", "by", "limit", "offset", "1", "at", "desc"}, "")
	all("from sagas", 5, []string{"group", "by", "at", ",", "select", "count", "()"}, "")
	all("", 4, []string{"from", "records", "where", "select", "at", "x", "(", "7", `"a"`}, "")
	for _, e := range []api.Errno{api.OK, api.ErrQuery, api.ErrColumn, api.ErrType, api.ErrGroup, api.ErrSource} {
		if seen[e] < 10 {
			t.Errorf("error %d comes only %d times", e, seen[e])
		}
	}
}

// loose is a query's text with blanks, parentheses and an "asc" that Print would not write.
func loose(r *rand.Rand, q api.Query) string {
	out := ""
	blanks := func() string { return pick(r, " ", "  ", "\t", "\n ", "\r\n") }
	for _, w := range queryTokens(q) {
		sign := signForm.MatchString(w) || w == callParen
		if !sign || r.Intn(2) == 0 {
			out += blanks()
		}
		out += strings.Replace(w, callParen, "(", 1)
		if sign && r.Intn(3) == 0 {
			out += blanks()
		}
	}
	return out + pick(r, "", " ", "\n")
}

// wrappedMore puts tests of a text's condition into more parentheses.
func wrappedMore(r *rand.Rand, e api.Expr) string {
	out := strings.Join(tokensOf(e), " ")
	if e.Kind >= api.XNot {
		var all []string
		for _, p := range e.Parts {
			all = append(all, "("+wrappedMore(r, p)+")")
		}
		out = "not " + all[0]
		if e.Kind != api.XNot {
			out = strings.Join(all, map[int]string{api.XAnd: " and ", api.XOr: " or "}[e.Kind])
		}
	}
	for range r.Intn(3) {
		out = "(" + out + ")"
	}
	return out
}

// Promises 20.2, 20.3, 20.4: drawn queries are read from whatever text says them, and come back from the text that is printed.
func TestParseDrawn(t *testing.T) {
	t.Parallel()
	r := rand.New(rand.NewSource(202))
	for range 8000 {
		q := drawQuery(r)
		back(t, q)
		s := loose(r, q)
		if got, e, at := query.Parse(s); e != api.OK || at != 0 || !same(got, q) {
			t.Fatalf("Parse(%q) = %+v, %d, %d, not %+v", s, got, e, at, q)
		}
		hold(t, s)
		if q.Where.Kind != api.XNone {
			s := fmt.Sprintf("from %s where %s select count()", []string{"", "records", "sagas"}[q.From], wrappedMore(r, q.Where))
			got, e, _ := query.Parse(s)
			if e == api.ErrNest {
				hold(t, s)
			} else if e != api.OK || !same(got.Where, q.Where) {
				t.Fatalf("Parse(%q) = %+v, %d, not %+v", s, got.Where, e, q.Where)
			}
		}
	}
}

// Promise 20.2: texts that go wrong at any place: tokens are left out, doubled, swapped, put in, and bytes changed.
func TestParseMeddled(t *testing.T) {
	t.Parallel()
	r := rand.New(rand.NewSource(2022))
	odd := []string{"from", "records", "sagas", "where", "group", "by", "select", "order", "limit", "offset", "limit -1", "and", "or", "not", "in", "starts", "contains", "asc", "desc", "true", "false", "count", "sum", "min", "max", "at", "kind", "flight", "id", "x", "(", ")", ",", "=", "!=", "<", "0", "-1", "7", `"a"`, `"from"`, "!", ";", "01", `"`, "\xff", "\u00e9"}
	seen := map[api.Errno]int{}
	for range 30000 {
		words := queryTokens(drawQuery(r))
		for range 1 + r.Intn(2) {
			i, j := r.Intn(len(words)), r.Intn(len(words))
			switch r.Intn(6) {
			case 0:
				words = slices.Delete(words, i, i+1)
			case 1:
				words = slices.Insert(words, i, words[j])
			case 2:
				words[i], words[j] = words[j], words[i]
			case 3:
				words = slices.Insert(words, i, pick(r, odd...))
			case 4:
				words[i] = pick(r, odd...)
			case 5:
				words = words[:i]
			}
			if len(words) == 0 {
				words = []string{"from"}
			}
		}
		s := strings.ReplaceAll(strings.Join(words, pick(r, " ", " ", " ", "")), callParen, "(")
		if r.Intn(4) == 0 {
			at := r.Intn(len(s) + 1)
			s = s[:at] + pick(r, "\xff", "-", "\"", " ", "!", "x", "0", "") + s[min(at+r.Intn(2), len(s)):]
		}
		seen[hold(t, s)]++
	}
	for _, e := range []api.Errno{api.OK, api.ErrToken, api.ErrQuery, api.ErrSource, api.ErrColumn, api.ErrType, api.ErrGroup, api.ErrBounds, api.ErrNumber, api.ErrOpen} {
		if seen[e] < 20 {
			t.Errorf("error %d comes only %d times", e, seen[e])
		}
	}
}

// Promise 20.13: whatever bytes there are, Parse ends, and tells an error and a place of the text.
func TestParseAnything(t *testing.T) {
	r := rand.New(rand.NewSource(2013))
	for range 20000 {
		b := make([]byte, r.Intn(24))
		r.Read(b)
		hold(t, string(b))
		hold(t, "from records where "+string(b))
		hold(t, "from records where kind = "+text.Quote(string(b))+" select at")
	}
}
