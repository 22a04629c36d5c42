package console_test

import (
	"strconv"
	"strings"
	"testing"
)

func itoa(n int) string { return strconv.Itoa(n) }

// Promise 18.8: over a disk that is down, with a store open.
func TestDownStore(t *testing.T) {
	for _, row := range [][2]string{
		{"open 3 64", "error 60 store open - -1"}, {"open 0 64", "error 60 store open - -1"}, {"close", "ok"},
		{"append", "error 60 store append - -1"}, {"append 3 end 0", "error 60 store append - -1"}, {"append 3 end 5", "error 60 store append - -1"},
		{`import "[]"`, "error 60 store append - -1"}, {`import "["`, "error 130"},
		{"sync", "error 60 store sync - -1"}, {"rotate", "error 60 store rotate - -1"}, {"raise 3", "error 60 store raise - -1"}, {"raise 0", "error 60 store raise - -1"},
		{"upgrade", "error 60 rewrite upgrade store records - -1"}, {"compact", "error 60 rewrite compact store records - -1"}, {"dead", "error 60 rewrite dead store records - -1"},
		{"records", "error 60 store records - -1"}, {"lookup 5", "error 60 store lookup - -1"}, {"lookup 0", "error 60 store lookup - -1"},
		{"replay 2", "error 60 store blobs - -1"}, {"replay 0", "error 60 store blobs - -1"}, {"saga 5", "error 60 store lookup - -1"},
		{"stat", "ok 1 3 2 0 1 3 3 54 54"}, {"segments", "ok 1:0:0"}, {"backup", "error 60 archive backup store records - -1"},
		{"restore 3 64", "error 60 archive restore"}, {"restore 0 0", "error 60 archive restore"}, {"blank", "ok"},
		{"files", "ok MANIFEST:15 s1:54"}, {"free", "ok 0"}, {"arm -1", "ok"}, {"crash 0", "ok 2"},
		{"run 3 64", "error 60 engine 0 store open - -1"}, {`run 3 64 "a"`, "error 150 engine 0"},
		{"start 8 pay", "error 183"}, {"next", "error 183"}, {"reply 5 done", "error 183"}, {"out", "error 183"},
		{`json "1"`, "ok 1"}, {`crc ""`, "ok 0"}, {"up 3 3 end 5", `ok [{"kind":"end","saga":5,"v":3}]`},
	} {
		c := opened(t, "store")
		expect(t, c, [2]string{"arm 0", "ok"}, [2]string{"rotate", "error 60 store rotate - -1"}, row)
	}
}

// Promise 18.8: over a disk that is down, with an engine open.
func TestDownEngine(t *testing.T) {
	for _, row := range [][2]string{
		{"close", "ok"}, {"append", "error 184"}, {"sync", "error 60 store sync - -1"}, {"compact", "error 60 engine 0"}, {"dead", "error 60 rewrite dead store records - -1"},
		{"records", "error 60 store records - -1"}, {"lookup 5", "error 60 store lookup - -1"}, {"replay 2", "error 60 store blobs - -1"}, {"saga 5", "error 60 store lookup - -1"},
		{"backup", "error 60 archive backup store records - -1"}, {"run 3 64", "error 60 engine 0 store open - -1"},
		{"start 8 pay", "error 60 engine 8"}, {"start 0 pay", "error 60 engine 0"}, {"start 5 buy", "error 60 engine 5"}, {`start 8 pay "` + strings.Repeat("x", 16385) + `"`, "error 2 engine 8"},
		{"next", "error 60 engine 0"}, {"reply 5 done", "error 60 engine 5"}, {"reply 99 done", "error 60 engine 99"}, {"out", "ok 5"}, {"free", "ok 0"}, {"blank", "ok"}, {"crash 0", "ok 3"},
	} {
		c := opened(t, "engine")
		expect(t, c, [2]string{"arm 0", "ok"}, [2]string{"start 8 pay", "error 60 engine 8 store append - -1"}, row)
	}
}

// Promise 18.8: with nothing open, over a disk that is down, what wants a store or an engine is refused for that.
func TestDownNothing(t *testing.T) {
	for _, name := range names() {
		want := map[string]string{"S": "error 182", "T": "error 182", "E": "error 183"}[marks[name]]
		if want == "" {
			continue
		}
		c := opened(t, "store")
		expect(t, c, [2]string{"arm 0", "ok"}, [2]string{"rotate", "error 60 store rotate - -1"}, [2]string{"close", "ok"}, [2]string{good(name), want})
	}
}

// Promise 18.8: crash may come at any time, and so may blank; the disk behind them is neither down nor armed, and has the same quota.
func TestCrashAndBlank(t *testing.T) {
	for _, line := range []string{"crash 0", "crash 9 9,9 9,9", "blank"} {
		for _, what := range []string{"nothing", "store", "engine"} {
			for _, down := range []bool{false, true} {
				c := opened(t, what)
				expect(t, c, [2]string{"arm 0", "ok"})
				if down {
					expect(t, c, [2]string{"open 3 64", "error 60 store open - -1"}, [2]string{"free", "ok 0"})
				}
				if got := c.Do(line); !strings.HasPrefix(got, "ok") {
					t.Fatalf("%s answers %q", line, got)
				}
				taken := 0
				for _, f := range c.Files() {
					taken += len(f.Data)
				}
				expect(t, c, [2]string{"free", "ok " + itoa(quota-taken)}, [2]string{"stat", "error 182"}, [2]string{"out", "error 183"})
				if got := c.Do("open 3 64"); !strings.HasPrefix(got, "ok ") {
					t.Fatalf("open behind %s answers %q", line, got)
				}
				expect(t, c, [2]string{"rotate", "ok " + strings.Fields(c.Do("rotate"))[1]})
			}
		}
	}
}

// The table: crash hands on how many name changes are kept and what is left of each file by rising name.
func TestCuts(t *testing.T) {
	for _, row := range []struct{ crash, files, records string }{
		{"crash 0", "ok MANIFEST:15 s1:5", "ok 0"},
		{"crash 0 9,9", "ok MANIFEST:15 s1:5", "ok 0"},
		{"crash 0 0,0 11,0", "ok MANIFEST:15 s1:16", "ok 1"},
		{"crash 0 0,0 12,3", "ok MANIFEST:15 s1:20", "ok 1"},
		{"crash 0 0,0 22,0 5,5", "ok MANIFEST:15 s1:27", "ok 2"},
		{"crash 0 0,0 99,99", "ok MANIFEST:15 s1:27", "ok 2"},
		{"crash 0 0,0 0,99", "ok MANIFEST:15 s1:27", "ok 0"},
		{"crash 0 0,0 -5,3", "ok MANIFEST:15 s1:8", "ok 0"},
		{"crash -1 0,0 11,-1", "ok MANIFEST:15 s1:16", "ok 1"},
	} {
		c := newConsole(t, quota)
		expect(t, c, [2]string{"open 3 64", "ok 0"}, [2]string{"append 3 end 1; 3 end 2", "ok 2"}, [2]string{row.crash, "ok 2"}, [2]string{"files", row.files}, [2]string{"open 1 64", row.records})
	}
	// A store that was being made, and the disk down at the fifth changing call: the segment was made, filled and synced, MANIFEST.tmp made and not filled.
	for _, row := range [][2]string{{"crash 0", "ok"}, {"crash 1", "ok s1:5"}, {"crash 2", "ok MANIFEST.tmp:0 s1:5"}, {"crash 3", "ok MANIFEST.tmp:0 s1:5"}} {
		c := newConsole(t, quota)
		expect(t, c, [2]string{"arm 4", "ok"}, [2]string{"open 3 64", "error 60 store open - -1"})
		expect(t, c, [2]string{row[0], "ok " + itoa(strings.Count(row[1], ":"))}, [2]string{"files", row[1]})
	}
}
