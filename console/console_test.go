package console_test

import (
	"fmt"
	"strings"
	"testing"

	"annals/api"
	"annals/console"
	"annals/disk"
	"annals/store"
)

const quota = 4096

func newConsole(t *testing.T, quota int) *console.Console {
	t.Helper()
	c, e := console.New(quota)
	if e != api.OK || c == nil {
		t.Fatalf("New(%d): %d", quota, e)
	}
	return c
}

// expect plays lines, each with its answer.
func expect(t *testing.T, c *console.Console, rows ...[2]string) {
	t.Helper()
	for i, row := range rows {
		if got := c.Do(row[0]); got != row[1] {
			t.Fatalf("line %d: %q answers %q, want %q", i, row[0], got, row[1])
		}
	}
}

// tell is files as a text.
func tell(files []api.File) string {
	var out strings.Builder
	for _, f := range files {
		fmt.Fprintf(&out, "%s:%x ", f.Name, f.Data)
	}
	return out.String()
}

// Promise 18.1: disk.New's error, or an empty disk of that quota, nothing open, no archive kept.
func TestNew(t *testing.T) {
	for _, quota := range []int{-1 << 63, -1, api.MaxQuota + 1, 1<<63 - 1} {
		if c, e := console.New(quota); e != api.ErrArg || c != nil {
			t.Errorf("New(%d): %v, %d", quota, c, e)
		}
	}
	for _, quota := range []int{0, 1, 15, api.MaxQuota} {
		c := newConsole(t, quota)
		if len(c.Files()) != 0 {
			t.Errorf("New(%d): there are files", quota)
		}
		expect(t, c, [2]string{"files", "ok"}, [2]string{"free", fmt.Sprintf("ok %d", quota)}, [2]string{"stat", "error 182"}, [2]string{"out", "error 183"}, [2]string{"restore 3 64", "error 170 archive restore"})
	}
}

// Promise 18.2: which lines a script has, and that each has its answer and a newline behind it.
func TestRunLines(t *testing.T) {
	for _, row := range []struct{ script, want string }{
		{"", ""},
		{"\n", "\n"},
		{"\n\n", "\n\n"},
		{"free", "ok 99\n"},
		{"free\n", "ok 99\n"},
		{"\nfree", "\nok 99\n"},
		{"free\n\n", "ok 99\n\n"},
		{" \nfree\n#\nfree # so much", "\nok 99\n\nok 99\n"},
		{"free\r\nfree", "error 22 at 4\nok 99\n"},
		{"what\nopen 3\nopen 3 64\nstat\nrecords", "error 180\nerror 181\nok 0\nok 1 3 2 0 1 0 0 5 5\nok []\n"},
		{"name \"\\n\"\nname \"a\nb\"", "error 22 at 0\nerror 25 at 5\nerror 22 at 1\n"},
	} {
		if got, e := console.Run(99, row.script); e != api.OK || got != row.want {
			t.Errorf("Run(%q) = %q, %d, want %q", row.script, got, e, row.want)
		}
	}
}

// Promise 18.2: the bounds of a script, in their order, and New's error behind them.
func TestRunBounds(t *testing.T) {
	whole := strings.Repeat(" ", api.MaxScript)
	for _, row := range []struct {
		quota  int
		script string
		want   string
		e      api.Errno
	}{
		{9, whole, "\n", api.OK},
		{9, whole + " ", "", api.ErrLong},
		{-1, whole + " ", "", api.ErrLong},
		{-1, whole, "", api.ErrArg},
		{9, strings.Repeat("\n", 256), strings.Repeat("\n", 256), api.OK},
		{9, strings.Repeat("\n", 255) + "free", strings.Repeat("\n", 255) + "ok 9\n", api.OK},
		{9, strings.Repeat("free\n", 256), strings.Repeat("ok 9\n", 256), api.OK},
		{9, strings.Repeat("\n", 256) + "x", "", api.ErrLong},
		{9, strings.Repeat("\n", 257), "", api.ErrLong},
		{-1, strings.Repeat("\n", 257), "", api.ErrLong},
		{-1, strings.Repeat("\n", 256), "", api.ErrArg},
		{-1, "", "", api.ErrArg},
		{api.MaxQuota, "free", "ok 4194304\n", api.OK},
		{api.MaxQuota + 1, "free", "", api.ErrArg},
	} {
		if got, e := console.Run(row.quota, row.script); e != row.e || got != row.want {
			t.Errorf("Run(%d, %d bytes) = %d bytes, %d, want %d bytes, %d", row.quota, len(row.script), len(got), e, len(row.want), row.e)
		}
	}
}

// history is a script that opens, changes, crashes and saves.
func history() []string {
	return []string{
		"open 1 64", `append 1 begin 5 step=2 data="pay"; 1 start 5`, "sync", "append 1 done 5", "raise 3",
		"append 3 start 5 step=1 try=1", "crash 9 9,0 2,3", "open 1 64", "records", "backup", "append 1 end 6", "arm 3", "rotate", "free", "crash 1",
		"open 3 128", "stat", "blank", "restore 2 64", "segments", `run 3 64 "pay: hold~free, ship~back"`, "next", "reply 5 done", "next", "out",
	}
}

// Promise 18.2: a script's lines are played in their order on one new console.
func TestRunIsDo(t *testing.T) {
	c := newConsole(t, quota)
	want := ""
	for _, line := range history() {
		want += c.Do(line) + "\n"
	}
	for range 2 {
		got, e := console.Run(quota, strings.Join(history(), "\n"))
		if e != api.OK || got != want {
			t.Fatalf("Run answers\n%s, want\n%s", got, want)
		}
	}
	if strings.Count(want, "ok") < 20 {
		t.Errorf("the history is refused:\n%s", want)
	}
}

// Promise 18.3: Files tells the files of the console's disk, whatever is open, and whether the disk is down or not.
func TestFiles(t *testing.T) {
	d, _ := disk.New(quota)
	s, err := store.Open(d, api.Options{V: 1, Limit: 64})
	if err != nil {
		t.Fatal(err)
	}
	c := newConsole(t, quota)
	same := func(when string) {
		t.Helper()
		if got, want := tell(c.Files()), tell(d.Files()); got != want {
			t.Fatalf("Files %s: %s, want %s", when, got, want)
		}
	}
	expect(t, c, [2]string{"open 1 64", "ok 0"})
	same("behind open")
	if err := s.Append(api.Record{V: 1, Kind: api.KEnd, Saga: 1}); err != nil {
		t.Fatal(err)
	}
	expect(t, c, [2]string{"append 1 end 1", "ok 1"})
	same("behind append")
	expect(t, c, [2]string{"close", "ok"})
	same("behind close")
	expect(t, c, [2]string{"open 1 64", "ok 1"}, [2]string{"arm 0", "ok"}, [2]string{"rotate", "error 60 store rotate - -1"})
	same("of a disk that is down")
	expect(t, c, [2]string{"blank", "ok"})
	if len(c.Files()) != 0 {
		t.Error("Files behind blank: there are some")
	}
}

// The examples of chapter 18.
func TestExamples(t *testing.T) {
	expect(t, newConsole(t, quota), [][2]string{
		{"open 3 256", "ok 0"},
		{`append 3 begin 5 count=2 name=pay data="x"; 3 start 5 try=1`, "ok 2"},
		{"stat", "ok 1 3 2 0 1 2 2 39 39"},
		{"crash 0", "ok 2"},
		{"lookup 5", "error 182"},
		{"open 1 64", "ok 0"},
		{`append 3 begin 5 count=2 name="" at=1`, "error 35 store append - 0"},
		{`run 3 256 "pay: hold~free, charge!, ship"`, "ok 0"},
		{`start 7 pay "x"`, "ok"},
		{"next", `ok 7 0 do 1 hold "x"`},
		{`reply 7 refused 9 "no"`, "ok"},
		{"next", "ok none"},
		{"append", "error 184"},
		{`json "[1.50e1, true]"`, "ok [15,true]"},
		{"reply 7 done", "error 162 engine 7"},
		{`json "[1,]"`, "error 131 at 3"},
		{"# a remark", ""},
	}...)
}
