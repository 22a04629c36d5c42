package disk_test

import (
	"fmt"
	"math"
	"strings"
	"testing"

	"annals/api"
	"annals/disk"
)

// changing is each changing call, on a disk that has the files a and b, and one byte of room at least.
var changing = []struct {
	name string
	call func(d *disk.Disk) api.Errno
}{
	{"Create", func(d *disk.Disk) api.Errno { return d.Create("c") }},
	{"Append", func(d *disk.Disk) api.Errno { return d.Append("a", []byte("x")) }},
	{"Append of no byte", func(d *disk.Disk) api.Errno { return d.Append("a", nil) }},
	{"Sync", func(d *disk.Disk) api.Errno { return d.Sync("a") }},
	{"Truncate", func(d *disk.Disk) api.Errno { return d.Truncate("a", 1) }},
	{"Truncate to its length", func(d *disk.Disk) api.Errno { return d.Truncate("b", 1) }},
	{"Rename", func(d *disk.Disk) api.Errno { return d.Rename("a", "d") }},
	{"Rename onto another", func(d *disk.Disk) api.Errno { return d.Rename("a", "b") }},
	{"Rename to itself", func(d *disk.Disk) api.Errno { return d.Rename("a", "a") }},
	{"Remove", func(d *disk.Disk) api.Errno { return d.Remove("a") }},
	{"SyncDir", func(d *disk.Disk) api.Errno { return d.SyncDir() }},
}

// refused is calls that are refused on such a disk, with their errors.
var refused = []struct {
	name string
	call func(d *disk.Disk) api.Errno
	e    api.Errno
}{
	{"Create of a name that is there", func(d *disk.Disk) api.Errno { return d.Create("b") }, api.ErrExists},
	{"Create of no name", func(d *disk.Disk) api.Errno { return d.Create("") }, api.ErrPath},
	{"Append to a missing file", func(d *disk.Disk) api.Errno { return d.Append("none", []byte("x")) }, api.ErrMissing},
	{"Append of too much", func(d *disk.Disk) api.Errno { return d.Append("b", make([]byte, 99)) }, api.ErrFull},
	{"Sync of a missing file", func(d *disk.Disk) api.Errno { return d.Sync("none") }, api.ErrMissing},
	{"Truncate of a missing file", func(d *disk.Disk) api.Errno { return d.Truncate("none", 0) }, api.ErrMissing},
	{"Truncate beyond", func(d *disk.Disk) api.Errno { return d.Truncate("b", 99) }, api.ErrBeyond},
	{"Rename of a missing file", func(d *disk.Disk) api.Errno { return d.Rename("none", "x") }, api.ErrMissing},
	{"Rename to no name", func(d *disk.Disk) api.Errno { return d.Rename("b", "/") }, api.ErrPath},
	{"Remove of a missing file", func(d *disk.Disk) api.Errno { return d.Remove("none") }, api.ErrMissing},
}

// halfSynced is a disk with the files a and b, of which a has synced bytes and others, and with a name change.
func halfSynced(t *testing.T) *disk.Disk {
	t.Helper()
	d := loaded(t, 10, file("a", "12"), file("old", "3"))
	done(t, d.Append("a", []byte("45")))
	done(t, d.Rename("old", "b"))
	return d
}

// crashes is all that a crash may leave of a disk, for all keeps and some cuts.
func crashes(d *disk.Disk) string {
	var out []string
	for keep := range 5 {
		for _, c := range []api.Cut{{}, {Keep: 1}, {Zero: 1}, {Keep: 1, Zero: 9}, {Keep: 9}} {
			out = append(out, tell(d.Crash(keep, c, c, c, c)))
		}
	}
	return strings.Join(out, "; ")
}

// Promise 6.10: just n changing calls are done, each of them counts, and the next one changes nothing but that the disk is down.
func TestArm(t *testing.T) {
	for _, c := range changing {
		for n := range 4 {
			d := halfSynced(t)
			d.Arm(n)
			for range n {
				done(t, d.Append("a", nil))
			}
			files, left := tell(d.Files()), crashes(d)
			is(t, c.name+": Down", d.Down(), false)
			is(t, c.name, c.call(d), api.ErrDown)
			is(t, c.name+": Down", d.Down(), true)
			is(t, c.name+": Files", tell(d.Files()), files)
			is(t, c.name+": Crash", crashes(d), left)

			d = halfSynced(t)
			d.Arm(n + 1)
			for range n {
				done(t, d.Append("a", nil))
			}
			is(t, c.name, c.call(d), api.OK)
			is(t, c.name+" counts: Down", d.Down(), false)
			is(t, c.name+" counts", d.SyncDir(), api.ErrDown)
			is(t, c.name+" counts: Down", d.Down(), true)
		}
	}
}

// Promise 6.10: a refused call does not count, and no call but the changing ones counts; a disk that is about to go down tells all other errors.
func TestRefusedDoesNotCount(t *testing.T) {
	for _, n := range []int{0, 1} {
		d := halfSynced(t)
		d.Arm(n)
		files, left, free := tell(d.Files()), crashes(d), d.Free()
		for range 3 {
			for _, c := range refused {
				is(t, c.name, c.call(d), c.e)
			}
			d.Read("a")
			d.Read("none")
			d.List()
			d.Down()
		}
		is(t, "Down, Free", fmt.Sprint(d.Down(), d.Free()), fmt.Sprint(false, free))
		is(t, "Files", tell(d.Files()), files)
		is(t, "Crash", crashes(d), left)
		for range n {
			done(t, d.SyncDir())
		}
		is(t, "SyncDir", d.SyncDir(), api.ErrDown)
	}
}

// Promise 6.10: a later Arm takes the place of the one before; below 0 the disk does not go down.
func TestArmAgain(t *testing.T) {
	for _, later := range []int{-1, -2, math.MinInt} {
		d := halfSynced(t)
		d.Arm(0)
		d.Arm(later)
		for range 20 {
			done(t, d.SyncDir())
		}
	}
	d := halfSynced(t)
	d.Arm(0)
	d.Arm(2)
	answers(t, "a greater one", []api.Errno{api.OK, api.OK, api.ErrDown}, d.SyncDir(), d.SyncDir(), d.SyncDir())
	d = halfSynced(t)
	d.Arm(5)
	done(t, d.SyncDir())
	d.Arm(1)
	answers(t, "a lesser one", []api.Errno{api.OK, api.ErrDown}, d.SyncDir(), d.SyncDir())
	d = halfSynced(t)
	d.Arm(math.MaxInt)
	for range 20 {
		done(t, d.SyncDir())
	}
	d.Arm(-1)
	d.Arm(0)
	is(t, "armed again", d.SyncDir(), api.ErrDown)
	d = empty(t, 9)
	for i := range 50 {
		done(t, d.Create(fmt.Sprint("f", i)))
	}
	is(t, "a new disk", d.Down(), false)
}

// Promise 6.10: a disk that is down stays down; what its calls answer.
func TestDown(t *testing.T) {
	d := halfSynced(t)
	files, left := tell(d.Files()), crashes(d)
	d.Arm(0)
	is(t, "Sync", d.Sync("a"), api.ErrDown)
	for _, n := range []int{-1, 0, 5, math.MinInt, math.MaxInt} {
		d.Arm(n)
		is(t, "Down", d.Down(), true)
		for _, c := range changing {
			is(t, c.name, c.call(d), api.ErrDown)
		}
		for _, c := range refused {
			is(t, c.name, c.call(d), api.ErrDown)
		}
		for _, name := range []string{"a", "none", "", "a b"} {
			if b, e := d.Read(name); b != nil || e != api.ErrDown {
				t.Errorf("Read(%q): %q, %d", name, b, e)
			}
		}
		is(t, "List, Free", fmt.Sprint(len(d.List()), d.Free()), "0 0")
		is(t, "Files", tell(d.Files()), files)
		is(t, "Crash", crashes(d), left)
	}
	if back, e := disk.Load(10, d.Crash(9, cut(9, 0))); e != api.OK || back.Down() {
		t.Errorf("what is left of it, loaded: %d", e)
	}
}

// The order of the errors: ErrDown; ErrPath (of Rename: from, then to); ErrExists or ErrMissing; ErrBeyond; ErrFull.
func TestOrder(t *testing.T) {
	d := loaded(t, 3, file("a", "12"))
	big := make([]byte, 99)
	answers(t, "path ahead of all others", all(api.ErrPath, 7), d.Append("", big), d.Truncate("", -1), d.Rename("", ""), d.Rename("", "a"), d.Rename("a", ""), d.Rename("none", ""), d.Rename("", "none"))
	answers(t, "missing ahead of beyond and full", all(api.ErrMissing, 4), d.Append("none", big), d.Truncate("none", -1), d.Truncate("none", 99), d.Rename("none", "a"))
	is(t, "Files", tell(d.Files()), `a="12"`)
	is(t, "Crash", tell(d.Crash(9)), `a="12"`)
	d.Arm(0)
	answers(t, "a disk that would go down", []api.Errno{api.ErrPath, api.ErrExists, api.ErrMissing, api.ErrBeyond, api.ErrFull}, d.Create("a b"), d.Create("a"), d.Remove("none"), d.Truncate("a", 3), d.Append("a", big))
	is(t, "Down", d.Down(), false)
	answers(t, "a disk that goes down", all(api.ErrDown, 5), d.Append("a", nil), d.Create("a b"), d.Create("a"), d.Truncate("a", 3), d.Append("a", big))
}
