package console_test

import (
	"strings"
	"testing"

	"annals/console"
)

// good is a line of a command's form, one that nothing but what is open could refuse.
func good(name string) string {
	switch name {
	case "open", "restore":
		return name + " 3 64"
	case "run":
		return `run 3 64 "pay: hold~free, ship~back"`
	case "crash":
		return "crash 9 9,9 9,9"
	case "append":
		return "append 3 begin 9 name=pay count=2"
	case "import":
		return `import "[{\"count\":2,\"kind\":\"begin\",\"name\":\"pay\",\"saga\":9,\"v\":3}]"`
	case "raise", "up":
		return map[string]string{"raise": "raise 3", "up": "up 3 1 end 5"}[name]
	case "lookup", "saga":
		return name + " 5"
	case "replay":
		return "replay 2"
	case "start":
		return `start 8 pay "x"`
	case "reply":
		return "reply 5 done"
	case "arm":
		return "arm 99"
	case "json":
		return `json "1"`
	case "state":
		return `state "{\"count\":0,\"sagas\":[]}"`
	case "plan":
		return `plan "a: b!"`
	case "name", "crc":
		return name + ` "a"`
	case "clip":
		return `clip 1 "a"`
	case "down":
		return "down 1 3 end 5"
	}
	return name
}

// opened is a console whose disk holds the saga 5, with nothing open, a store, or an engine whose call of saga 5 is out.
func opened(t *testing.T, what string) *console.Console {
	t.Helper()
	c := newConsole(t, quota)
	expect(t, c, [2]string{"open 3 64", "ok 0"}, [2]string{"append 3 begin 5 name=pay count=2; 3 begin 6 name=pay count=2; 3 start 6 try=1", "ok 3"})
	switch what {
	case "nothing":
		expect(t, c, [2]string{"close", "ok"})
	case "engine":
		expect(t, c, [2]string{good("run"), "ok 2"}, [2]string{"next", `ok 5 0 do 1 hold ""`})
	}
	return c
}

// isOpen tells what is open.
func isOpen(c *console.Console) string {
	store, engine := c.Do("stat"), c.Do("out")
	switch {
	case store == "error 182" && engine == "error 183":
		return "nothing"
	case strings.HasPrefix(store, "ok ") && engine == "error 183":
		return "store"
	case strings.HasPrefix(store, "ok ") && strings.HasPrefix(engine, "ok"):
		return "engine"
	}
	return store + ", " + engine
}

// Promise 18.6: which error a command has by what is open.
func TestWants(t *testing.T) {
	want := map[string]map[string]string{
		"S": {"nothing": "error 182"},
		"T": {"nothing": "error 182", "engine": "error 184"},
		"E": {"nothing": "error 183", "store": "error 183"},
	}
	for _, name := range names() {
		for _, what := range []string{"nothing", "store", "engine"} {
			c := opened(t, what)
			if name == "restore" {
				expect(t, c, [2]string{"blank", "ok"}, [2]string{"open 3 64", "ok 0"}, [2]string{"backup", "ok 25"}, [2]string{"blank", "ok"})
			}
			was := tell(c.Files())
			got := c.Do(good(name))
			refusal := want[marks[name]][what]
			if refusal == "" {
				if got != "ok" && !strings.HasPrefix(got, "ok ") {
					t.Errorf("%s with %s open answers %q", name, what, got)
				}
				continue
			}
			if got != refusal {
				t.Errorf("%s with %s open answers %q, want %q", name, what, got, refusal)
			}
			if isOpen(c) != what || tell(c.Files()) != was {
				t.Errorf("%s with %s open is refused, and %s is open", name, what, isOpen(c))
			}
		}
	}
}

// Promise 18.6: what is open behind a command that is done.
func TestOpenBehind(t *testing.T) {
	behind := map[string]string{"open": "store", "restore": "store", "run": "engine", "blank": "nothing", "crash": "nothing", "close": "nothing"}
	for _, name := range names() {
		for _, what := range []string{"nothing", "store", "engine"} {
			c := opened(t, what)
			if name == "restore" {
				expect(t, c, [2]string{"open 3 64", "ok " + map[string]string{"nothing": "3", "store": "3", "engine": "4"}[what]})
				c.Do("backup")
				expect(t, c, [2]string{"blank", "ok"})
			}
			c.Do(good(name))
			want := what
			if b := behind[name]; b != "" {
				want = b
			}
			if got := isOpen(c); got != want {
				t.Errorf("behind %s, with %s open, %s is open, want %s", name, what, got, want)
			}
		}
	}
}

// Promise 18.6: a command that lets go and is then refused leaves nothing open; one that is not of its form leaves all as it was.
func TestRefusedLetsGo(t *testing.T) {
	for _, row := range [][2]string{
		{"open 0 64", "error 3 store open - -1"},
		{"open 3 63", "error 93 store open - -1"},
		{"open 3 65537", "error 93 store open - -1"},
		{"run 3 63", "error 93 engine 0 store open - -1"},
		{"run 3 64", "error 156 engine 5"},
		{`run 3 64 "pay: hold!"`, "error 154 engine 5"},
		{`run 3 64 "pay: hold"`, "error 152 engine 0"},
		{`run 3 64 "pay: hold!" "pay: hold!"`, "error 155 engine 0"},
		{"restore 3 64", "error 170 archive restore"},
		{"restore 4 64", "error 3 archive restore"},
		{"restore 3 63", "error 93 archive restore"},
	} {
		for _, what := range []string{"nothing", "store", "engine"} {
			c := opened(t, what)
			was := tell(c.Files())
			expect(t, c, row)
			if got := isOpen(c); got != "nothing" || tell(c.Files()) != was {
				t.Errorf("%s with %s open is refused, and %s is open", row[0], what, got)
			}
		}
	}
	for _, line := range []string{"open 3", "open 3 64 1", "run 3 64 x", "restore 3", "blank 1", "crash", "crash 1 2", "close 1", "opens 3 64", "open 3 64 $"} {
		for _, what := range []string{"nothing", "store", "engine"} {
			c := opened(t, what)
			c.Do(line)
			if got := isOpen(c); got != what {
				t.Errorf("behind %q, with %s open, %s is open", line, what, got)
			}
		}
	}
}

// Promise 18.6: close with nothing open is ErrClosed and changes nothing; else it lets go, and leaves the disk as it is.
func TestClose(t *testing.T) {
	c := newConsole(t, quota)
	expect(t, c, [][2]string{
		{"close", "error 182"}, {"close", "error 182"}, {"free", "ok 4096"},
		{"open 1 64", "ok 0"}, {"append 1 end 1", "ok 1"}, {"close", "ok"}, {"close", "error 182"},
		{"stat", "error 182"}, {"append", "error 182"}, {"next", "error 183"},
		{"open 1 64", "ok 1"}, {"stat", "ok 1 1 2 0 1 1 0 16 16"}, // Open has synced what was pending
		{"close", "ok"}, {"run 3 64", "error 111 engine 1"}, {"close", "error 182"},
		{"blank", "ok"}, {"run 3 64", "ok 0"}, {"close", "ok"}, {"out", "error 183"}, {"stat", "error 182"},
	}...)
}

// Promise 18.6: with an engine S commands work on the engine's store, and compact is the engine's.
func TestEngineStore(t *testing.T) {
	c := newConsole(t, quota)
	expect(t, c, [][2]string{
		{`run 1 64 "pay: hold~free"`, "ok 0"},
		{"stat", "ok 2 3 3 0 2 0 0 5 27"}, // made with the version 1, and raised
		{`start 7 pay "x"`, "ok"},
		{"records", `ok [{"at":1,"count":1,"data":"x","kind":"begin","name":"pay","saga":7,"v":3}]`},
		{"lookup 7", `ok [{"at":1,"count":1,"data":"x","kind":"begin","name":"pay","saga":7,"v":3}]`},
		{"lookup 8", "ok []"},
		{"next", `ok 7 0 do 1 hold "x"`},
		{"reply 7 refused -3", "ok"},
		{"stat", "ok 2 3 3 0 2 3 1 60 82"},
		{"sync", "ok"},
		{"stat", "ok 2 3 3 0 2 3 0 60 82"},
		{"dead", "ok 0 0"},
		{"next", "ok none"},
		{"dead", "ok 4 1"},
		{"segments", "ok 1:22:0 2:82:3 3:0:0"},
		{"saga 7", `ok {"count":4,"sagas":[{"at":4,"begun":1,"count":1,"fail":"","fail_code":-3,"fail_step":0,"flight":false,"id":7,"input":"x","name":"pay","next":0,"outs":[],"phase":"undone","pivot":0,"tries":0,"undos":[]}]}`},
		{"start 7 pay", "error 160 engine 7"},
		{"compact", "ok 4 0 1 3 1 124 5"},
		{"start 7 pay", "error 161 engine 7"}, // the engine knows that the saga went
		{"start 8 pay", "ok"},
		{"backup", "ok 46"},
		{"replay 16", `ok -1 {"count":1,"sagas":[{"at":5,"begun":5,"count":1,"fail":"","fail_code":0,"fail_step":0,"flight":false,"id":8,"input":"","name":"pay","next":0,"outs":[],"phase":"running","pivot":0,"tries":0,"undos":[]}]}`},
		{"append", "error 184"}, {`import "["`, "error 184"}, {"rotate", "error 184"}, {"raise 9", "error 184"}, {"upgrade", "error 184"},
	}...)
}

// The table: the archive is kept till the next backup that is done, whatever is opened, closed, made blank or crashes meanwhile.
func TestKeptArchive(t *testing.T) {
	c := newConsole(t, quota)
	expect(t, c, [][2]string{
		{"restore 3 64", "error 170 archive restore"}, {"backup", "error 182"}, {"backup 1", "error 181"},
		{"open 1 64", "ok 0"}, {"append 1 end 1; 1 end 2", "ok 2"}, {"backup", "ok 49"}, // the pending ones too
		{"append 1 end 3", "ok 3"}, {"close", "ok"},
		{"restore 1 64", "error 173 archive restore"}, {"stat", "error 182"},
		{"blank", "ok"}, {"restore 2 64", "ok 2"}, {"stat", "ok 2 2 3 0 1 2 0 27 27"},
		{"records", `ok [{"kind":"end","saga":1,"v":2},{"kind":"end","saga":2,"v":2}]`},
		{"append 2 end 4", "ok 3"}, {"arm 0", "ok"}, {"sync", "error 60 store sync - -1"},
		{"backup", "error 60 archive backup store records - -1"}, // and the old one stays
		{"restore 2 64", "error 60 archive restore"}, {"crash 0", "ok 2"}, {"open 2 64", "ok 2"},
		{"blank", "ok"}, {"restore 3 512", "ok 2"}, {"compact", "ok 2 0 2 1 1 27 5"}, {"backup", "ok 25"},
		{"blank", "ok"}, {"restore 3 64", "ok 0"}, {"stat", "ok 2 3 3 2 1 0 0 5 5"},
		{"blank", "ok"}, {"run 3 64", "ok 0"}, {"backup", "ok 25"}, {"blank", "ok"}, {"restore 3 64", "ok 0"}, {"stat", "ok 2 3 3 0 1 0 0 5 5"},
	}...)
}
