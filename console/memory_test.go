package console_test

import (
	"math/rand"
	"regexp"
	"runtime"
	"strings"
	"sync"
	"testing"
	"time"

	"annals/api"
	"annals/console"
)

// scribble writes into files, and behind the ends of their list and their bytes.
func scribble(files []api.File) {
	files = files[:cap(files)]
	for i := range files {
		data := files[i].Data[:cap(files[i].Data)]
		for j := range data {
			data[j] ^= 0x5a
		}
		files[i].Name = "x"
	}
}

// Rule 3 of the whole: what Files tells is new memory.
func TestFilesAreNew(t *testing.T) {
	c, other := newConsole(t, quota), newConsole(t, quota)
	for _, line := range history() {
		was := tell(c.Files())
		scribble(c.Files())
		if got := tell(c.Files()); got != was {
			t.Fatalf("Files shares memory: %s, was %s", got, was)
		}
		if got, want := c.Do(line), other.Do(line); got != want {
			t.Fatalf("behind scribbling %q answers %q, want %q", line, got, want)
		}
	}
}

// Two consoles have nothing in common, whichever comes first.
func TestConsolesApart(t *testing.T) {
	var want []string
	c := newConsole(t, quota)
	for _, line := range history() {
		want = append(want, c.Do(line))
	}
	a, b := newConsole(t, quota), newConsole(t, quota)
	for i := range len(history()) + 5 {
		if i < len(history()) && a.Do(history()[i]) != want[i] {
			t.Fatalf("line %d is not what it was", i)
		}
		if j := i - 5; j >= 0 && b.Do(history()[j]) != want[j] {
			t.Fatalf("line %d is not what it was", j)
		}
	}
}

var form = regexp.MustCompile(`(?s)^(|ok( .*)?|error \d+( at \d+| engine -?\d+)?( archive \w+)?( rewrite \w+)?( store \w+ \S+ -?\d+)?)$`)

// sound tells whether an answer is one line of the form that 18.5 says.
func sound(answer string) bool { return form.MatchString(answer) && !strings.Contains(answer, "\n") }

// Rules 2 of the whole: no line makes a call panic, and each has a one-line answer; a Console that New did not make is no exception.
func TestAnyLine(t *testing.T) {
	r := rand.New(rand.NewSource(7))
	for seed := range 300 {
		c := newConsole(t, pick(r, 0, 50, 300, quota))
		if seed%3 == 0 {
			c = &console.Console{}
		}
		for range 60 {
			line := ""
			switch r.Intn(4) {
			case 0:
				b := make([]byte, r.Intn(40))
				r.Read(b)
				line = string(b)
			case 1:
				name := pick(r, names()...)
				line = strings.Join(append([]string{name}, spoil(r, sample(r, name))...), " ")
			default:
				line = write(r, draw(r, pick(r, names()...)))
			}
			if got := c.Do(line); !sound(got) {
				t.Fatalf("%q answers %q", line, got)
			}
			c.Files()
		}
	}
}

// A Console that New did not make has a disk without room.
func TestZeroConsole(t *testing.T) {
	var c console.Console
	if len(c.Files()) != 0 {
		t.Error("there are files")
	}
	expect(t, &c, [][2]string{
		{"", ""}, {"free", "ok 0"}, {"files", "ok"}, {"stat", "error 182"}, {"close", "error 182"}, {"next", "error 183"}, {"arm 0", "ok"},
		{"open 3 64", "error 64 store open - -1"}, {"run 3 64", "error 64 engine 0 store open - -1"}, {"restore 3 64", "error 170 archive restore"},
		{"crash 0", "ok 0"}, {"blank", "ok"}, {`json "1"`, "ok 1"},
	}...)
	for _, name := range names() {
		var c console.Console
		if got := c.Do(good(name)); !sound(got) {
			t.Errorf("%s answers %q", name, got)
		}
	}
}

// Rule 8 of the whole: all goroutines have ended when a call answers; and consoles side by side do not meet.
func TestSideBySide(t *testing.T) {
	script := strings.Join(append(history(), "close", "open 3 64", "replay 16", "records"), "\n")
	want, e := console.Run(quota, script)
	if e != api.OK {
		t.Fatal(e)
	}
	before := runtime.NumGoroutine()
	var all sync.WaitGroup
	for range 8 {
		all.Go(func() {
			for range 20 {
				if got, e := console.Run(quota, script); e != api.OK || got != want {
					t.Error("a script side by side with others answers otherwise")
				}
			}
		})
	}
	all.Wait()
	for range 100 {
		if runtime.NumGoroutine() <= before {
			return
		}
		time.Sleep(time.Millisecond)
	}
	t.Errorf("%d goroutines, %d before", runtime.NumGoroutine(), before)
}
