package console_test

import (
	"fmt"
	"math/rand"
	"regexp"
	"strings"
	"testing"

	"annals/api"
	"annals/text"
)

// Promise 18.4: the error of text.Words with its place, ahead of all else.
func TestWordsRefuse(t *testing.T) {
	c := newConsole(t, quota)
	long := "free " + strings.Repeat(" ", api.MaxScript-5)
	expect(t, c, [][2]string{
		{long, "ok 4096"},
		{long + " ", "error 2 at 65536"},
		{strings.Repeat("\xff", api.MaxScript+1), "error 2 at 65536"},
		{"free $", "error 22 at 5"},
		{"what is \xff", "error 21 at 8"},
		{"free 01", "error 29 at 5"},
		{"free 9223372036854775808", "error 29 at 5"},
		{"free -0", "error 29 at 5"},
		{"name \"a", "error 25 at 5"},
		{"name \"\t\"", "error 26 at 5"},
		{`name "\q"`, "error 27 at 5"},
		{`name "\x41"`, "error 28 at 5"},
		{strings.Repeat("a", 49), "error 23 at 48"},
		{"free\nfree", "error 22 at 4"},
		{"free -", "error 22 at 5"},
		{"free 7up", "error 22 at 6"},
	}...)
}

// Promise 18.4: a line without words has the empty answer; the first word must be a command's name.
func TestNoCommand(t *testing.T) {
	c := newConsole(t, quota)
	for _, line := range []string{"", " ", "\t \t", "#", " # open 3 64", "#\xff\n"} {
		if got := c.Do(line); got != "" {
			t.Errorf("%q answers %q", line, got)
		}
	}
	for _, line := range []string{
		"opens", "Open 3 64", "OPEN", "ope", "open.", "o", "ship", "query", "help", "start-", "ключ", "é",
		"7", "-1", `"open" 3 64`, `"free"`, `""`, ";", "= free", ", free", "(free)", "ok", "error", "none",
		"records2", "free_",
	} {
		if got := c.Do(line); got != "error 180" {
			t.Errorf("%q answers %q", line, got)
		}
	}
	expect(t, c, [2]string{"free#free", "ok 4096"}, [2]string{"\tfree # 1 2 3", "ok 4096"})
}

const (
	fieldForm  = `(?:(?:step|try|at|last|code|count|pivot) = 0 |name = (?:A|"") |data = "" )*`
	recordForm = `0 (?:begin|start|done|fail|undo|undone|end) 0 ` + fieldForm
)

// forms is a second reading of the table's first column, over words written as codes: 0 a number, "" a literal, a sign as itself, a name as itself; A is any name.
var forms = map[string]string{
	"open": `0 0 `, "close": ``, "append": `(?:` + recordForm + `(?:; ` + recordForm + `)*)?`, "import": `"" `, "sync": ``,
	"rotate": ``, "raise": `0 `, "upgrade": ``, "compact": ``, "dead": ``, "records": ``, "lookup": `0 `, "replay": `0 `,
	"saga": `0 `, "stat": ``, "segments": ``, "backup": ``, "restore": `0 0 `, "blank": ``, "files": ``, "free": ``, "arm": `0 `,
	"crash": `0 (?:0 , 0 )*`, "run": `0 0 (?:"" )*`, "start": `0 A (?:"" )?`, "next": ``,
	"reply": `0 (?:done|again|refused|lost) (?:0 (?:"" )?)?`, "out": ``, "json": `"" `, "state": `"" `, "plan": `"" `, "name": `"" `,
	"clip": `0 "" `, "crc": `"" `, "up": `0 ` + recordForm, "down": `0 ` + recordForm,
}

// marks is what the table says of what a command wants; D: it lets go of what was open.
var marks = map[string]string{
	"open": "D", "restore": "D", "run": "D", "blank": "D", "crash": "D", "close": "S",
	"append": "T", "import": "T", "rotate": "T", "raise": "T", "upgrade": "T",
	"sync": "S", "compact": "S", "dead": "S", "records": "S", "lookup": "S", "replay": "S", "saga": "S", "stat": "S", "segments": "S", "backup": "S",
	"start": "E", "next": "E", "reply": "E", "out": "E",
	"files": "", "free": "", "arm": "", "json": "", "state": "", "plan": "", "name": "", "clip": "", "crc": "", "up": "", "down": "",
}

func names() []string {
	return strings.Fields("open close append import sync rotate raise upgrade compact dead records lookup replay saga stat segments backup restore blank files free arm crash run start next reply out json state plan name clip crc up down")
}

// anyName is A of the forms.
const anyName = `[^ 0",;=:~!/@*+()]+`

// twice tells whether in some record of the coded words a field is named twice.
func twice(coded string) bool {
	for _, part := range strings.Split(coded, "; ") {
		seen := map[string]int{}
		for _, m := range regexp.MustCompile(`(\S+) = `).FindAllStringSubmatch(part, -1) {
			seen[m[1]]++
			if seen[m[1]] > 1 {
				return true
			}
		}
	}
	return false
}

// fits tells whether coded words are of a command's form.
func fits(name, coded string) bool {
	form := "^(?:" + strings.ReplaceAll(forms[name], "A", anyName) + ")$"
	return regexp.MustCompile(form).MatchString(coded) && !twice(coded)
}

// code writes words as codes.
func code(words []string) string {
	out := ""
	for _, w := range words {
		switch {
		case w[0] == '"':
			w = `""`
		case w[0] == '-' || w[0] >= '0' && w[0] <= '9':
			w = "0"
		}
		out += w + " "
	}
	return out
}

// sample is words of a command's form.
func sample(r *rand.Rand, name string) []string {
	num := func() string { return fmt.Sprint(r.Intn(9) - 1) }
	lit := func() string { return pick(r, `""`, `"a: b!"`, `"=0"`, `";"`) }
	var out []string
	record := func() {
		out = append(out, num(), pick(r, "begin", "start", "done", "fail", "undo", "undone", "end"), num())
		fields := strings.Fields("step try at last code count pivot name data")
		r.Shuffle(len(fields), func(i, j int) { fields[i], fields[j] = fields[j], fields[i] })
		for _, f := range fields[:r.Intn(4)] {
			v := num()
			if f == "data" || f == "name" && r.Intn(2) == 0 {
				v = lit()
			} else if f == "name" {
				v = pick(r, "pay", "name", "é")
			}
			out = append(out, f, "=", v)
		}
	}
	switch name {
	case "append":
		for i := range r.Intn(3) {
			if i > 0 {
				out = append(out, ";")
			}
			record()
		}
	case "up", "down":
		out = append(out, num())
		record()
	case "open", "restore":
		out = append(out, num(), num())
	case "run":
		out = append(out, num(), num())
		for range r.Intn(3) {
			out = append(out, lit())
		}
	case "crash":
		out = append(out, num())
		for range r.Intn(3) {
			out = append(out, num(), ",", num())
		}
	case "start":
		out = append(out, num(), pick(r, "pay", "name", "done"))
		if r.Intn(2) == 0 {
			out = append(out, lit())
		}
	case "reply":
		out = append(out, num(), pick(r, "done", "again", "refused", "lost"))
		if r.Intn(2) == 0 {
			out = append(out, num())
			if r.Intn(2) == 0 {
				out = append(out, lit())
			}
		}
	case "raise", "lookup", "replay", "saga", "arm":
		out = append(out, num())
	case "import", "json", "state", "plan", "name", "crc":
		out = append(out, lit())
	case "clip":
		out = append(out, num(), lit())
	}
	return out
}

// spoil turns some words into others: one is left out, put in, doubled, changed, or two change places.
func spoil(r *rand.Rand, words []string) []string {
	out := append([]string(nil), words...)
	for range r.Intn(3) {
		other := pick(r, "0", "-5", "7", `"x"`, `""`, "pay", "begin", "step", "data", "name", "=", ";", ",", ":", "done", "ends")
		i := r.Intn(len(out) + 1)
		switch {
		case r.Intn(3) == 0 || i == len(out):
			out = append(out[:i], append([]string{other}, out[i:]...)...)
		case r.Intn(3) == 0:
			out = append(out[:i], out[i+1:]...)
		case r.Intn(3) == 0:
			out = append(out[:i], append([]string{out[i]}, out[i:]...)...)
		case r.Intn(2) == 0:
			j := r.Intn(len(out))
			out[i], out[j] = out[j], out[i]
		default:
			out[i] = other
		}
	}
	return out
}

func pick[T any](r *rand.Rand, list ...T) T { return list[r.Intn(len(list))] }

// Promises 18.4 and 18.7: words that are of a command's form are played, all others are ErrWords, and change nothing.
func TestForms(t *testing.T) {
	if len(names()) != len(forms) || len(forms) != len(marks) {
		t.Fatal("the tables part")
	}
	r := rand.New(rand.NewSource(1))
	good, bad := map[string]int{}, map[string]int{}
	for i := range 40000 {
		name := names()[i%len(names())]
		words := spoil(r, sample(r, name))
		line := strings.Join(append([]string{name}, words...), " ")
		if _, e, _ := text.Words(line); e != api.OK {
			t.Fatalf("%q is no line", line)
		}
		c := newConsole(t, 500)
		expect(t, c, [2]string{"open 3 64", "ok 0"})
		got := c.Do(line)
		if fits(name, code(words)) {
			good[name]++
			if got == "error 181" {
				t.Fatalf("%q answers %q", line, got)
			}
			continue
		}
		bad[name]++
		if got != "error 181" {
			t.Fatalf("%q answers %q, want error 181", line, got)
		}
		expect(t, c, [2]string{"stat", "ok 1 3 2 0 1 0 0 5 5"})
	}
	for _, name := range names() {
		if good[name] < 100 || bad[name] < 100 {
			t.Errorf("%s: %d good lines, %d others", name, good[name], bad[name])
		}
	}
}

// Promise 18.4: the edges of the forms that the chapter names.
func TestFormEdges(t *testing.T) {
	c := newConsole(t, quota)
	for _, line := range []string{
		"open", "open 3", "open 3 64 1", "open 3, 64", `open "3" 64`, "open three 64", "open 3 64;", "close 1", "sync 0",
		"append ;", "append 3 end 5;", "append ; 3 end 5", "append 3 end 5;; 3 end 6", "append 3 end 5, 3 end 6", "append 3 end 5 3 end 6", "append 3", "append 3 end",
		"import", "import x", `import "[]" "[]"`, "import 1", "raise", "raise x", "raise 3 3", "lookup", `lookup "5"`, "replay", "replay 1 1", "saga", "saga x",
		"restore 3", "restore", "blank 1", "files s1", "free 1", "arm", "arm x", "arm 1 2", "crash", "crash x", "crash 1 2", "crash 1 2,", "crash 1 ,2", "crash 1 2 3", "crash 1 2,3 4", "crash 1 2,3,4", "crash 1 2,3, 4,5", "crash 1;",
		"run", "run 3", "run 3 64 pay", "run 3 64 7", `run 3 64, "a: b!"`, `run 3 64 "a: b!", "c: d!"`,
		"start", "start 7", `start 7 "pay"`, "start pay", "start 7 pay x", "start 7 pay 1", `start 7 pay "x" "y"`, `start 7 pay, "x"`,
		"next 1", "out 1", "reply", "reply 7", "reply 7 yes", "reply 7 Done", `reply 7 "done"`, "reply 7 1", `reply 7 done "x"`, "reply 7 done x", "reply 7 done 1 x", "reply 7 done 1 2", `reply 7 done 1 "x" 2`, "reply done 7",
		"json", "json x", "json 1", `json "1" "2"`, "state", "plan", "plan a", `plan "a: b!" 1`, "name", "name a", "clip", "clip 1", `clip "a" 1`, `clip "a"`, `clip 1 "a" "b"`, "clip 1 a", "crc", "crc 1", `crc "a" "b"`,
		"up", "up 3", "up 1 end 5", "up 3 1 end 5; 1 end 6", "up 3 1 end 5;", "down", "down 1", "down 3 end 5",
	} {
		if got := c.Do(line); got != "error 181" {
			t.Errorf("%q answers %q", line, got)
		}
	}
}
