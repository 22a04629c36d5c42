package disk_test

import (
	"bytes"
	"fmt"
	"math"
	"slices"
	"strings"
	"testing"

	"annals/api"
	"annals/disk"
)

// The calls, with the signatures that the chapter lists.
var (
	_ func(int) (*disk.Disk, api.Errno)             = disk.New
	_ func(int, []api.File) (*disk.Disk, api.Errno) = disk.Load
	_ func(*disk.Disk, string) api.Errno            = (*disk.Disk).Create
	_ func(*disk.Disk, string, []byte) api.Errno    = (*disk.Disk).Append
	_ func(*disk.Disk, string) api.Errno            = (*disk.Disk).Sync
	_ func(*disk.Disk, string, int) api.Errno       = (*disk.Disk).Truncate
	_ func(*disk.Disk, string, string) api.Errno    = (*disk.Disk).Rename
	_ func(*disk.Disk, string) api.Errno            = (*disk.Disk).Remove
	_ func(*disk.Disk) api.Errno                    = (*disk.Disk).SyncDir
	_ func(*disk.Disk, string) ([]byte, api.Errno)  = (*disk.Disk).Read
	_ func(*disk.Disk) []string                     = (*disk.Disk).List
	_ func(*disk.Disk) int                          = (*disk.Disk).Free
	_ func(*disk.Disk) []api.File                   = (*disk.Disk).Files
	_ func(*disk.Disk, int)                         = (*disk.Disk).Arm
	_ func(*disk.Disk) bool                         = (*disk.Disk).Down
	_ func(*disk.Disk, int, ...api.Cut) []api.File  = (*disk.Disk).Crash
	_ interface {
		Append(string, []byte) api.Errno
	} = (*disk.Disk)(nil)
	_ interface {
		Crash(int, ...api.Cut) []api.File
	} = (*disk.Disk)(nil)
)

// tell is files as a text: a="12" b="".
func tell(files []api.File) string {
	var out []string
	for _, f := range files {
		out = append(out, fmt.Sprintf("%s=%q", f.Name, f.Data))
	}
	return strings.Join(out, " ")
}

// file is one file of a list.
func file(name, data string) api.File { return api.File{Name: name, Data: []byte(data)} }

// cut is what is left of a file's bytes that are not synced.
func cut(keep, zero int) api.Cut { return api.Cut{Keep: keep, Zero: zero} }

// empty is a new disk.
func empty(t *testing.T, quota int) *disk.Disk {
	t.Helper()
	d, e := disk.New(quota)
	if d == nil || e != api.OK {
		t.Fatalf("New(%d): %v, %d", quota, d, e)
	}
	return d
}

// loaded is a disk with files.
func loaded(t *testing.T, quota int, files ...api.File) *disk.Disk {
	t.Helper()
	d, e := disk.Load(quota, files)
	if d == nil || e != api.OK {
		t.Fatalf("Load(%d, %s): %v, %d", quota, tell(files), d, e)
	}
	return d
}

// is holds an answer against what is asked of it.
func is(t *testing.T, what string, got, want any) {
	t.Helper()
	if fmt.Sprint(got) != fmt.Sprint(want) {
		t.Errorf("%s: %v, want %v", what, got, want)
	}
}

// answers holds the errors of some calls, one behind the other, against what is asked of them.
func answers(t *testing.T, what string, want []api.Errno, got ...api.Errno) {
	t.Helper()
	if !slices.Equal(got, want) {
		t.Errorf("%s: %v, want %v", what, got, want)
	}
}

// all is one error a call, the same of each.
func all(e api.Errno, n int) []api.Errno { return slices.Repeat([]api.Errno{e}, n) }

// done asks that a call is done.
func done(t *testing.T, e api.Errno) {
	t.Helper()
	if e != api.OK {
		t.Fatalf("a call that is to be done answers %d", e)
	}
}

// read is the answer of Read as a text.
func read(d *disk.Disk, name string) string {
	b, e := d.Read(name)
	return fmt.Sprintf("%q %d", b, e)
}

// Promises 6.1 to 6.13: the chapter's examples, in turn.
func TestExamples(t *testing.T) {
	d := empty(t, 10)
	answers(t, "Create", []api.Errno{api.OK, api.ErrExists, api.ErrPath}, d.Create("a"), d.Create("a"), d.Create("a b"))
	answers(t, "Append", []api.Errno{api.OK}, d.Append("a", []byte("12345")))
	is(t, "Crash(0)", tell(d.Crash(0)), ``)
	is(t, "Crash(1)", tell(d.Crash(1)), `a=""`)
	is(t, "Crash(9, {2, 1})", tell(d.Crash(9, cut(2, 1))), `a="12\x00"`)
	is(t, "Crash(1, {-3, 9})", tell(d.Crash(1, cut(-3, 9))), `a="\x00\x00\x00\x00\x00"`)
	answers(t, "Sync, SyncDir", all(api.OK, 2), d.Sync("a"), d.SyncDir())
	answers(t, "Append", []api.Errno{api.OK}, d.Append("a", []byte("6789")))
	is(t, "Free", d.Free(), 1)
	answers(t, "Append", []api.Errno{api.ErrFull}, d.Append("a", []byte("xy")))
	is(t, "Crash(0, {3, 0})", tell(d.Crash(0, cut(3, 0))), `a="12345678"`)
	answers(t, "Create, Rename", all(api.OK, 2), d.Create("b"), d.Rename("b", "a"))
	is(t, "Files", tell(d.Files()), `a=""`)
	is(t, "Free", d.Free(), 1)
	is(t, "Crash(0)", tell(d.Crash(0)), `a="12345"`)
	is(t, "Crash(1)", tell(d.Crash(1)), `a="12345" b=""`)
	is(t, "Crash(2)", tell(d.Crash(2)), `a=""`)
	answers(t, "Truncate", []api.Errno{api.ErrBeyond}, d.Truncate("a", 1))
	d.Arm(1)
	answers(t, "SyncDir", []api.Errno{api.OK}, d.SyncDir())
	is(t, "Free", d.Free(), 10)
	answers(t, "Create, Remove", []api.Errno{api.ErrExists, api.ErrDown}, d.Create("a"), d.Remove("a"))
	is(t, "Down, Free, List", fmt.Sprint(d.Down(), d.Free(), len(d.List())), "true 0 0")
	is(t, "Files", tell(d.Files()), `a=""`)
}

// Promise 6.1: quotas at their edges and beyond.
func TestNew(t *testing.T) {
	for _, quota := range []int{0, 1, 4194303, 4194304} {
		d := empty(t, quota)
		is(t, "Free", d.Free(), quota)
		is(t, "List, Files, Crash, Down", fmt.Sprint(len(d.List()), len(d.Files()), len(d.Crash(9, cut(9, 9))), d.Down()), "0 0 0 false")
	}
	for _, quota := range []int{-1, 4194305, math.MinInt, math.MaxInt} {
		if d, e := disk.New(quota); d != nil || e != api.ErrArg {
			t.Errorf("New(%d): %v, %d", quota, d, e)
		}
	}
}

// Promise 6.2: a loaded disk has the files, synced, under lasting names.
func TestLoad(t *testing.T) {
	d := loaded(t, 9, file("b", "123"), file("a", ""), file("B", "45"))
	is(t, "List", d.List(), "[B a b]")
	is(t, "Files", tell(d.Files()), `B="45" a="" b="123"`)
	is(t, "Crash", tell(d.Crash(0)), tell(d.Files()))
	is(t, "Crash", tell(d.Crash(9, cut(9, 9), cut(9, 9))), tell(d.Files()))
	is(t, "Free", d.Free(), 4)
	is(t, "Down", d.Down(), false)
	done(t, d.Remove("b"))
	is(t, "Crash(0)", tell(d.Crash(0)), `B="45" a="" b="123"`)
	is(t, "Crash(1)", tell(d.Crash(1)), `B="45" a=""`)
	is(t, "Free", d.Free(), 4)
	done(t, d.SyncDir())
	is(t, "Free", d.Free(), 7)
	is(t, "no file", tell(loaded(t, 0).Files()), ``)
}

// Promise 6.2: which files are refused, and what is told of several faults.
func TestLoadRefuses(t *testing.T) {
	long := strings.Repeat("x", 40)
	full := make([]byte, 4194304)
	rows := []struct {
		quota int
		files []api.File
		e     api.Errno
	}{
		{6, []api.File{file("b", "123"), file("a", "123")}, api.OK},
		{5, []api.File{file("b", "123"), file("a", "123")}, api.ErrFull},
		{5, []api.File{file("b", ""), file("a", "123456")}, api.ErrFull},
		{5, []api.File{file("b", "123456"), file("a", "")}, api.ErrFull},
		{0, []api.File{file("a", ""), file("b", "")}, api.OK},
		{0, []api.File{file("a", "1")}, api.ErrFull},
		{4194304, []api.File{{Name: "a", Data: full}}, api.OK},
		{4194304, []api.File{{Name: "a", Data: full}, file("b", "1")}, api.ErrFull},
		{4194304, []api.File{{Name: "a", Data: append(slices.Clone(full), 0)}}, api.ErrFull},
		{4194304, []api.File{{Name: "a", Data: full}, {Name: "b", Data: full}, {Name: "c", Data: full}}, api.ErrFull},
		{9, []api.File{file(long, "1")}, api.OK},
		{9, []api.File{file(long+"x", "1")}, api.ErrPath},
		{9, []api.File{file("", "1")}, api.ErrPath},
		{9, []api.File{file("a", ""), file("a/b", "")}, api.ErrPath},
		{9, []api.File{file("a", ""), file("b", ""), file("a", "")}, api.ErrExists},
		{9, []api.File{file("a", "1"), file("a", "1")}, api.ErrExists},

		{2, []api.File{file("b", "123"), file("b", "")}, api.ErrExists},
		{2, []api.File{file("b", "123"), file("b/", "")}, api.ErrPath},
		{2, []api.File{file("b", "123"), file("b/", ""), file("b", "")}, api.ErrPath},
		{2, []api.File{file("b", "123"), file("b", ""), file("b/", "")}, api.ErrExists},
		{9, []api.File{file("/", ""), file("/", "")}, api.ErrPath},
		{-1, []api.File{file("", "")}, api.ErrArg},
		{-1, []api.File{file("a", "1"), file("a", "")}, api.ErrArg},
		{4194305, nil, api.ErrArg},
		{math.MinInt, nil, api.ErrArg},
		{math.MaxInt, []api.File{file("a", "1")}, api.ErrArg},
	}
	for i, c := range rows {
		d, e := disk.Load(c.quota, c.files)
		if e != c.e || (d == nil) != (e != api.OK) {
			t.Errorf("row %d: Load(%d, %d files): %v, %d, want %d", i, c.quota, len(c.files), d != nil, e, c.e)
		}
	}
}

// named asks all calls that take a name with it, and tells their answers.
func named(d *disk.Disk, name string) []api.Errno {
	_, e := d.Read(name)
	return []api.Errno{d.Append(name, make([]byte, 99)), d.Sync(name), d.Truncate(name, -1), d.Rename(name, "free"), d.Rename(name, name), d.Remove(name), e}
}

// Promises 6.3 to 6.8 and 6.11: what a file name is: each byte at each place, and the lengths.
func TestNames(t *testing.T) {
	for c := range 256 {
		good := c >= 0x21 && c <= 0x7e && c != 0x2f
		for _, name := range []string{string([]byte{byte(c)}), string([]byte{byte(c), 'x', 'x'}), string([]byte{'x', byte(c), 'x'}), string([]byte{'x', 'x', byte(c)}), strings.Repeat("x", 39) + string([]byte{byte(c)})} {
			d := empty(t, 9)
			if good {
				answers(t, fmt.Sprintf("the name %q", name), []api.Errno{api.OK, api.ErrExists, api.OK}, d.Create(name), d.Create(name), d.Rename(name, "y"))
				answers(t, fmt.Sprintf("the name %q", name), []api.Errno{api.OK, api.OK}, d.Rename("y", name), d.Remove(name))
				answers(t, fmt.Sprintf("the missing name %q", name), all(api.ErrMissing, 7), named(d, name)...)
				continue
			}
			done(t, d.Create("a"))
			answers(t, fmt.Sprintf("%q", name), all(api.ErrPath, 7), named(d, name)...)
			answers(t, fmt.Sprintf("%q", name), all(api.ErrPath, 3), d.Create(name), d.Rename("a", name), d.Rename("none", name))
			is(t, fmt.Sprintf("%q", name), tell(d.Files()), `a=""`)
		}
	}
	for _, name := range []string{"", strings.Repeat("x", 41), strings.Repeat("x", 1<<20), "é", "a b", "a/b", "/", "a\n", "日本", "a\x00"} {
		d := empty(t, 9)
		answers(t, fmt.Sprintf("%.50q", name), all(api.ErrPath, 8), append(named(d, name), d.Create(name))...)
	}
	d := empty(t, 9)
	answers(t, "40 bytes", []api.Errno{api.OK}, d.Create(strings.Repeat("~", 40)))
}

// Promises 6.3, 6.7, 6.8: names are given, changed and taken away.
func TestNameChanges(t *testing.T) {
	d := empty(t, 20)
	answers(t, "Create", []api.Errno{api.OK, api.OK, api.ErrExists}, d.Create("a"), d.Create("b"), d.Create("a"))
	done(t, d.Append("a", []byte("aa")))
	done(t, d.Append("b", []byte("bb")))
	answers(t, "a refused Create", []api.Errno{api.ErrExists}, d.Create("a"))
	is(t, "Files", tell(d.Files()), `a="aa" b="bb"`)
	answers(t, "Rename to itself", []api.Errno{api.OK}, d.Rename("a", "a"))
	is(t, "Files", tell(d.Files()), `a="aa" b="bb"`)
	answers(t, "Rename to a new name", []api.Errno{api.OK}, d.Rename("a", "c"))
	is(t, "Files", tell(d.Files()), `b="bb" c="aa"`)
	answers(t, "from is no name", []api.Errno{api.ErrMissing, api.ErrMissing, api.ErrMissing}, d.Rename("a", "c"), d.Rename("a", "a"), d.Rename("a", "d"))
	answers(t, "Rename onto another", []api.Errno{api.OK}, d.Rename("c", "b"))
	is(t, "Files", tell(d.Files()), `b="aa"`)
	answers(t, "Remove", []api.Errno{api.OK, api.ErrMissing}, d.Remove("b"), d.Remove("b"))
	is(t, "Files", tell(d.Files()), ``)
	answers(t, "a new file of an old name", []api.Errno{api.OK}, d.Create("b"))
	is(t, "Files", tell(d.Files()), `b=""`)
	is(t, "Free", d.Free(), 16)
	done(t, d.SyncDir())
	is(t, "Free", d.Free(), 20)
}

// Promise 6.7: what is under a name that was renamed is written under its new name alone.
func TestWriteBehindRename(t *testing.T) {
	d := loaded(t, 20, file("a", "1"), file("b", "2"))
	done(t, d.Rename("a", "b"))
	done(t, d.Append("b", []byte("x")))
	done(t, d.Create("a"))
	done(t, d.Append("a", []byte("new")))
	is(t, "Files", tell(d.Files()), `a="new" b="1x"`)
	done(t, d.Sync("b"))
	is(t, "Crash(0)", tell(d.Crash(0)), `a="1x" b="2"`)
	is(t, "Crash(1)", tell(d.Crash(1)), `b="1x"`)
	is(t, "Crash(2)", tell(d.Crash(2)), `a="" b="1x"`)
}

// Promise 6.4: bytes join the end, not synced, as far as there is room.
func TestAppend(t *testing.T) {
	d := empty(t, 5)
	done(t, d.Create("a"))
	done(t, d.Create("b"))
	done(t, d.SyncDir())
	answers(t, "no such name", []api.Errno{api.ErrMissing, api.ErrMissing}, d.Append("c", nil), d.Append("c", make([]byte, 9)))
	answers(t, "too much", all(api.ErrFull, 2), d.Append("a", make([]byte, 6)), d.Append("b", make([]byte, 6)))
	answers(t, "Append", []api.Errno{api.OK, api.OK, api.OK}, d.Append("a", []byte("12")), d.Append("b", []byte("x")), d.Append("a", []byte("3")))
	is(t, "Read", read(d, "a"), `"123" 0`)
	is(t, "Free", d.Free(), 1)
	answers(t, "one too much", []api.Errno{api.ErrFull}, d.Append("b", []byte("yz")))
	is(t, "Files", tell(d.Files()), `a="123" b="x"`)
	answers(t, "just all", []api.Errno{api.OK}, d.Append("b", []byte("y")))
	is(t, "Free", d.Free(), 0)
	answers(t, "none is free", []api.Errno{api.ErrFull, api.OK, api.OK}, d.Append("a", []byte("4")), d.Append("a", nil), d.Append("a", []byte{}))
	is(t, "Files", tell(d.Files()), `a="123" b="xy"`)
	is(t, "Crash", tell(d.Crash(0)), `a="" b=""`)
}

// Promise 6.5: a Sync makes the bytes of one file last, and no later ones.
func TestSync(t *testing.T) {
	d := empty(t, 50)
	done(t, d.Create("a"))
	done(t, d.Create("b"))
	done(t, d.SyncDir())
	done(t, d.Append("a", []byte("12")))
	done(t, d.Append("b", []byte("12")))
	answers(t, "Sync", []api.Errno{api.OK, api.ErrMissing}, d.Sync("a"), d.Sync("c"))
	is(t, "Crash", tell(d.Crash(0)), `a="12" b=""`)
	done(t, d.Append("a", []byte("34")))
	is(t, "Crash", tell(d.Crash(0)), `a="12" b=""`)
	done(t, d.Append("a", nil))
	done(t, d.SyncDir())
	is(t, "SyncDir syncs no bytes", tell(d.Crash(0)), `a="12" b=""`)
	answers(t, "Sync twice", all(api.OK, 2), d.Sync("a"), d.Sync("a"))
	is(t, "Crash", tell(d.Crash(0)), `a="1234" b=""`)
}

// Promise 6.6: a cut lasts at once; what is left of the synced bytes stays synced, what is written behind is not.
func TestTruncate(t *testing.T) {
	d := loaded(t, 9, file("a", "1234"))
	done(t, d.Append("a", []byte("56")))
	answers(t, "beyond", all(api.ErrBeyond, 4), d.Truncate("a", 7), d.Truncate("a", -1), d.Truncate("a", math.MaxInt), d.Truncate("a", math.MinInt))
	answers(t, "missing", all(api.ErrMissing, 2), d.Truncate("b", 0), d.Truncate("b", -1))
	is(t, "Files", tell(d.Files()), `a="123456"`)
	answers(t, "to its length", []api.Errno{api.OK}, d.Truncate("a", 6))
	is(t, "Crash", tell(d.Crash(0)), `a="1234"`)
	is(t, "Crash", tell(d.Crash(0, cut(9, 9))), `a="123456"`)
	answers(t, "of what is not synced", []api.Errno{api.OK}, d.Truncate("a", 5))
	is(t, "Free", d.Free(), 4)
	is(t, "Crash", tell(d.Crash(0)), `a="1234"`)
	is(t, "Crash", tell(d.Crash(0, cut(9, 9))), `a="12345"`)
	answers(t, "of what is synced", []api.Errno{api.OK}, d.Truncate("a", 2))
	is(t, "Free", d.Free(), 7)
	is(t, "Crash", tell(d.Crash(0, cut(9, 9))), `a="12"`)
	done(t, d.Append("a", []byte("xyz")))
	is(t, "Crash", tell(d.Crash(0)), `a="12"`)
	is(t, "Crash", tell(d.Crash(0, cut(1, 9))), `a="12x\x00\x00"`)
	answers(t, "to no byte", []api.Errno{api.OK, api.OK, api.ErrBeyond}, d.Truncate("a", 0), d.Truncate("a", 0), d.Truncate("a", 1))
	is(t, "Crash", tell(d.Crash(0, cut(9, 9))), `a=""`)
	is(t, "Free", d.Free(), 9)
	done(t, d.Append("a", bytes.Repeat([]byte("f"), 9)))
	is(t, "Free", d.Free(), 0)
}

// Promises 6.6 and 6.9: a file that has lost its name keeps its room till SyncDir, and each file's room is counted once.
func TestRoom(t *testing.T) {
	d := loaded(t, 10, file("a", "1234"))
	done(t, d.Create("b"))
	done(t, d.Append("b", []byte("567")))
	done(t, d.Rename("b", "c"))
	done(t, d.Rename("c", "c"))
	is(t, "Free", d.Free(), 3)
	done(t, d.Remove("c"))
	is(t, "Free", d.Free(), 3)
	done(t, d.Create("c"))
	done(t, d.Append("c", []byte("89")))
	done(t, d.Rename("c", "a"))
	is(t, "Free", d.Free(), 1)
	answers(t, "Append", []api.Errno{api.ErrFull}, d.Append("a", []byte("xy")))
	done(t, d.Truncate("a", 1))
	is(t, "Free", d.Free(), 2)
	done(t, d.SyncDir())
	is(t, "Free", d.Free(), 9)
	is(t, "Files", tell(d.Files()), `a="8"`)
	done(t, d.Remove("a"))
	is(t, "Free", d.Free(), 9)
	done(t, d.SyncDir())
	is(t, "Free", d.Free(), 10)
	is(t, "Files", tell(d.Files()), ``)
}

// Promise 6.9: behind a SyncDir the names last, and there is no name change.
func TestSyncDir(t *testing.T) {
	d := empty(t, 10)
	done(t, d.Create("a"))
	done(t, d.Append("a", []byte("1")))
	done(t, d.Sync("a"))
	is(t, "Crash(0)", tell(d.Crash(0)), ``)
	done(t, d.SyncDir())
	for _, keep := range []int{-1, 0, 1, 2} {
		is(t, fmt.Sprintf("Crash(%d)", keep), tell(d.Crash(keep)), `a="1"`)
	}
	done(t, d.Rename("a", "b"))
	done(t, d.Remove("b"))
	done(t, d.SyncDir())
	for _, keep := range []int{0, 1, 2} {
		is(t, fmt.Sprintf("Crash(%d)", keep), tell(d.Crash(keep)), ``)
	}
	answers(t, "again", all(api.OK, 2), d.SyncDir(), d.SyncDir())
	// A change of the names that are now is none of those that last.
	done(t, d.Create("c"))
	is(t, "Crash(0)", tell(d.Crash(0)), ``)
	is(t, "Crash(1)", tell(d.Crash(1)), `c=""`)
}

// Promise 6.11: the names rise byte by byte; reading has its errors.
func TestLook(t *testing.T) {
	d := loaded(t, 99, file("b", "2"), file("aa", ""), file("a", "1"), file("B", ""), file("~", ""), file("!", ""), file("a!", ""), file("10", ""), file("9", ""))
	is(t, "List", d.List(), "[! 10 9 B a a! aa b ~]")
	is(t, "Read", read(d, "a"), `"1" 0`)
	is(t, "Read", read(d, "aa"), `"" 0`)
	is(t, "Read", read(d, "c"), `"" 63`)
	is(t, "Read", read(d, "a b"), `"" 61`)
	if b, e := d.Read("c"); b != nil || e != api.ErrMissing {
		t.Errorf("Read: %v, %d", b, e)
	}
	is(t, "Free", d.Free(), 97)
	is(t, "List of no file", len(empty(t, 1).List()), 0)
}

// Promise 6.12: Files tells all bytes, synced or not, under the names that are now.
func TestFiles(t *testing.T) {
	d := loaded(t, 99, file("b", "2"), file("a", "1"))
	done(t, d.Append("a", []byte("x")))
	done(t, d.Create("c"))
	done(t, d.Rename("b", "0"))
	is(t, "Files", tell(d.Files()), `0="2" a="1x" c=""`)
	for i, name := range d.List() {
		b, e := d.Read(name)
		if f := d.Files()[i]; e != api.OK || f.Name != name || !bytes.Equal(f.Data, b) {
			t.Errorf("%s: %s, %q, %d", name, f.Name, b, e)
		}
	}
}
