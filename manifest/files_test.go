package manifest_test

import (
	"bytes"
	"fmt"
	"math/rand"
	"slices"
	"strings"
	"testing"

	"annals/api"
	"annals/disk"
	"annals/manifest"
)

func newDisk(t *testing.T, quota int) *disk.Disk {
	t.Helper()
	d, e := disk.New(quota)
	if e != api.OK {
		t.Fatalf("disk.New(%d): %d", quota, e)
	}
	return d
}

func loaded(t *testing.T, quota int, files ...api.File) *disk.Disk {
	t.Helper()
	d, e := disk.Load(quota, files)
	if e != api.OK {
		t.Fatalf("disk.Load(%d, %s): %d", quota, tell(files), e)
	}
	return d
}

func file(name, data string) api.File { return api.File{Name: name, Data: []byte(data)} }

// tell is files as a text.
func tell(files []api.File) string {
	var out []string
	for _, f := range files {
		out = append(out, fmt.Sprintf("%s=%q", f.Name, f.Data))
	}
	return strings.Join(out, " ")
}

// down is a disk that is down, with these files.
func down(t *testing.T, files ...api.File) *disk.Disk {
	t.Helper()
	d := loaded(t, 1000, files...)
	d.Arm(0)
	if d.SyncDir(); !d.Down() {
		t.Fatal("the disk is not down")
	}
	return d
}

// sight is all that can be seen of a disk from without, the crashes that it may leave too.
func sight(d *disk.Disk) string {
	out := fmt.Sprint(d.Down(), d.Free(), d.List(), tell(d.Files()))
	for keep := range 16 {
		for _, c := range []api.Cut{{}, {Keep: 1}, {Keep: 3, Zero: 2}, {Keep: 99}, {Zero: 99}} {
			out += "\n" + tell(d.Crash(keep, slices.Repeat([]api.Cut{c}, 12)...))
		}
	}
	return out
}

// Promises 8.7 to 8.9: a nil disk, then a disk that is down, ahead of all that is wrong with the manifest.
func TestNilAndDown(t *testing.T) {
	for _, m := range []api.Manifest{one(), two(), {}} {
		if e := manifest.Swap(nil, m); e != api.ErrArg {
			t.Errorf("Swap(nil, %+v) = %d", m, e)
		}
		if l, e := manifest.Sweep(nil, m); e != api.ErrArg || len(l) != 0 {
			t.Errorf("Sweep(nil, %+v) = %q, %d", m, l, e)
		}
		d := down(t, file("MANIFEST", string(oneBytes)), file("MANIFEST.tmp", "x"), file("s7", "y"))
		was := sight(d)
		if e := manifest.Swap(d, m); e != api.ErrDown {
			t.Errorf("Swap(down, %+v) = %d", m, e)
		}
		if l, e := manifest.Sweep(d, m); e != api.ErrDown || len(l) != 0 {
			t.Errorf("Sweep(down, %+v) = %q, %d", m, l, e)
		}
		if got, e := manifest.Load(d); e != api.ErrDown || !same(got, api.Manifest{}) {
			t.Errorf("Load(down) = %+v, %d", got, e)
		}
		if sight(d) != was {
			t.Error("the disk became another")
		}
	}
	if m, e := manifest.Load(nil); e != api.ErrArg || !same(m, api.Manifest{}) {
		t.Errorf("Load(nil) = %+v, %d", m, e)
	}
	if _, e := manifest.Load(down(t)); e != api.ErrDown {
		t.Errorf("Load of an empty disk that is down: %d", e)
	}
}

// Promise 8.7: Load reads the file MANIFEST and no other.
func TestLoad(t *testing.T) {
	rows := []struct {
		files []api.File
		want  api.Manifest
		e     api.Errno
	}{
		{nil, api.Manifest{}, api.ErrNone},
		{[]api.File{file("MANIFEST.tmp", string(oneBytes)), file("manifest", string(oneBytes)), file("MANIFES", string(oneBytes)), file("s1", string(oneBytes))}, api.Manifest{}, api.ErrNone},
		{[]api.File{file("MANIFEST", string(oneBytes))}, one(), api.OK},
		{[]api.File{file("MANIFEST", string(twoBytes)), file("MANIFEST.tmp", string(oneBytes))}, two(), api.OK},
		{[]api.File{file("MANIFEST", ""), file("MANIFEST.tmp", string(oneBytes))}, api.Manifest{}, api.ErrShort},
		{[]api.File{file("MANIFEST", string(oneBytes)+"\x00")}, api.Manifest{}, api.ErrManifest},
		{[]api.File{file("MANIFEST", string(oneBytes[:14]))}, api.Manifest{}, api.ErrShort},
		{[]api.File{file("MANIFEST", string(oneBytes[:14])+"\x00")}, api.Manifest{}, api.ErrMark},
		{[]api.File{file("MANIFEST", string(frame('M', 0, 3, 2, 0, 1, 1, 0, 0)))}, api.Manifest{}, api.ErrGen},
		{[]api.File{file("MANIFEST", string(frame('X')))}, api.Manifest{}, api.ErrManifest},
	}
	for _, c := range rows {
		d := loaded(t, 1000, c.files...)
		was := sight(d)
		d.Arm(0)
		if m, e := manifest.Load(d); e != c.e || !same(m, c.want) {
			t.Errorf("Load of %s = %+v, %d, want %+v, %d", tell(c.files), m, e, c.want, c.e)
		}
		if sight(d) != was {
			t.Errorf("Load changed the disk with %s", tell(c.files))
		}
	}
}

// Promise 8.7: what Load reads is what stands under the name now, synced or not.
func TestLoadOfNow(t *testing.T) {
	d := newDisk(t, 1000)
	d.Create("MANIFEST")
	d.Append("MANIFEST", twoBytes)
	if m, e := manifest.Load(d); e != api.OK || !same(m, two()) {
		t.Errorf("%+v, %d", m, e)
	}
	d.Rename("MANIFEST", "other")
	if _, e := manifest.Load(d); e != api.ErrNone {
		t.Errorf("the name is gone: %d", e)
	}
}

// Promise 8.8: the examples, and the room to the byte.
func TestSwapRoom(t *testing.T) {
	d := newDisk(t, 14)
	was := sight(d)
	if e := manifest.Swap(d, one()); e != api.ErrFull || sight(d) != was {
		t.Errorf("quota 14: %d, %s", e, tell(d.Files()))
	}
	d = newDisk(t, 15)
	if e := manifest.Swap(d, one()); e != api.OK || tell(d.Files()) != tell([]api.File{file("MANIFEST", string(oneBytes))}) {
		t.Errorf("quota 15: %d, %s", e, tell(d.Files()))
	}
	for quota := 10; quota < 60; quota++ {
		for _, left := range []int{-1, 0, 1, 5, 15, 20} { // -1: there is no MANIFEST.tmp
			for _, other := range []int{0, 1, 7} {
				files := []api.File{file("x", strings.Repeat("x", other))}
				if left >= 0 {
					files = append(files, file("MANIFEST.tmp", strings.Repeat("t", left)))
				}
				if quota < other+max(left, 0) {
					continue
				}
				d := loaded(t, quota, files...)
				was := sight(d)
				want := api.OK
				if quota < other+15 {
					want = api.ErrFull
				}
				e := manifest.Swap(d, one())
				if e != want || want != api.OK && sight(d) != was {
					t.Errorf("quota %d, %d bytes in MANIFEST.tmp, %d in another file: %d, want %d", quota, left, other, e, want)
				}
			}
		}
	}
}

// Promise 8.8: the room of the old manifest is not free till it is gone, nor is that of a file that has lost its name.
func TestSwapRoomOfOld(t *testing.T) {
	d := loaded(t, 29, file("MANIFEST", string(oneBytes)))
	if e := manifest.Swap(d, one()); e != api.ErrFull {
		t.Errorf("quota 29: %d", e)
	}
	d = loaded(t, 30, file("MANIFEST", string(oneBytes)))
	if e := manifest.Swap(d, one()); e != api.OK || d.Free() != 15 {
		t.Errorf("quota 30: %d, %d free", e, d.Free())
	}
	d = loaded(t, 29, file("x", strings.Repeat("x", 15)))
	d.Remove("x")
	if e := manifest.Swap(d, one()); e != api.ErrFull {
		t.Errorf("a file without a name: %d", e)
	}
	// MANIFEST.tmp was renamed onto: of the two files one alone gives way.
	d = loaded(t, 30, file("MANIFEST.tmp", strings.Repeat("x", 16)), file("y", strings.Repeat("y", 9)))
	d.Rename("y", "MANIFEST.tmp")
	if e := manifest.Swap(d, one()); e != api.ErrFull {
		t.Errorf("a file that lost its name to another: %d", e)
	}
	d = loaded(t, 31, file("MANIFEST.tmp", strings.Repeat("x", 16)), file("y", strings.Repeat("y", 9)))
	d.Rename("y", "MANIFEST.tmp")
	if e := manifest.Swap(d, one()); e != api.OK {
		t.Errorf("with one byte more: %d", e)
	}
}

// Promises 8.8, 8.9: the error of Check comes ahead of the room, and nothing is changed beside it.
func TestErrorsOfCheck(t *testing.T) {
	rows := []struct {
		m api.Manifest
		e api.Errno
	}{
		{api.Manifest{}, api.ErrGen}, {api.Manifest{Gen: 1, V: 4}, api.ErrVersion}, {api.Manifest{Gen: 1, V: 1}, api.ErrNext}, {api.Manifest{Gen: 1, V: 1, Next: 2, Top: -1}, api.ErrTop},
		{api.Manifest{Gen: 1, V: 1, Next: 2}, api.ErrSegs}, {many(129), api.ErrSegs}, {api.Manifest{Gen: 1, V: 1, Next: 2, Segs: segs(2, 0, 0)}, api.ErrSeg},
	}
	for _, c := range rows {
		d := loaded(t, 9, file("MANIFEST.tmp", "x"), file("s7", "y"))
		d.Arm(0)
		was := sight(d)
		if e := manifest.Swap(d, c.m); e != c.e {
			t.Errorf("Swap(%+v) = %d, want %d", c.m, e, c.e)
		}
		if l, e := manifest.Sweep(d, c.m); e != c.e || len(l) != 0 {
			t.Errorf("Sweep(%+v) = %q, %d, want %d", c.m, l, e, c.e)
		}
		if sight(d) != was {
			t.Errorf("beside %d the disk became another", c.e)
		}
	}
}

// Promise 8.8: what the old manifest says, and whether it is one, is not asked.
func TestSwapOverAnything(t *testing.T) {
	for _, old := range []string{"", "no manifest", string(oneBytes), string(twoBytes)} {
		d := loaded(t, 100, file("MANIFEST", old))
		if e := manifest.Swap(d, one()); e != api.OK {
			t.Errorf("over %q: %d", old, e)
		}
		if m, e := manifest.Load(d); e != api.OK || !same(m, one()) {
			t.Errorf("over %q: %+v, %d", old, m, e)
		}
		if left := tell(d.Crash(0)); left != tell([]api.File{file("MANIFEST", string(oneBytes))}) {
			t.Errorf("over %q a crash leaves %s", old, left)
		}
	}
}

// Promise 8.9: the example, and what lies beside it.
func TestSweepExample(t *testing.T) {
	var files []api.File
	for _, name := range []string{"MANIFEST.tmp", "s1", "s2", "s10", "s01", "x"} {
		files = append(files, file(name, name))
	}
	d := loaded(t, 1000, files...)
	if l, e := manifest.Sweep(d, one()); e != api.OK || !slices.Equal(l, []string{"MANIFEST.tmp", "s10", "s2"}) {
		t.Errorf("%q, %d", l, e)
	}
	if left := tell(d.Crash(0)); left != `s01="s01" s1="s1" x="x"` {
		t.Errorf("it leaves %s", left)
	}
}

// Promise 8.9: of a store's names those go that do not count, foreign ones and MANIFEST stay, whatever it holds.
func TestSweepNames(t *testing.T) {
	m := api.Manifest{Gen: 1, V: 3, Next: maxNumber, Segs: segs(2, 70, 2, 11, 70, 2, maxNumber-1, 0, 0)}
	stale := []string{"MANIFEST.tmp", "s1", "s10", "s1099511627774", "s1099511627776", "s3", "s9", "s99"}
	stay := []string{"MANIFEST", "MANIFEST.tm", "MANIFEST.tmp.", "MANIFEST.tmp1", "MANIFEST2", "S1", "manifest.tmp", "s", "s+1", "s-1", "s0", "s003", "s1.", "s1099511627775", "s1099511627777", "s11", "s1x", "s2", "s9223372036854775808", "t1", "xs1", "~"}
	var files []api.File
	for _, name := range append(slices.Clone(stale), stay...) {
		files = append(files, file(name, "of "+name))
	}
	for i := range files {
		files = append(files[1:], files[0])
		d := loaded(t, 4000, files...)
		l, e := manifest.Sweep(d, m)
		if e != api.OK || !slices.Equal(l, stale) || !slices.Equal(d.List(), stay) {
			t.Fatalf("turn %d: %q, %d, it leaves %q", i, l, e, d.List())
		}
		for _, f := range d.Files() {
			if string(f.Data) != "of "+f.Name {
				t.Errorf("%s holds %q", f.Name, f.Data)
			}
		}
	}
}

// Promise 8.9: the names of m's segments need not be there, and where there is nothing to remove nothing is done.
func TestSweepNothing(t *testing.T) {
	for _, files := range [][]api.File{nil, {file("MANIFEST", "x")}, {file("s1", "x")}, {file("s2", ""), file("s1", "x"), file("x", "x"), file("s01", "y")}} {
		d := loaded(t, 100, files...)
		d.Create("new")
		d.Append("new", []byte("abc"))
		was := sight(d)
		d.Arm(0)
		if l, e := manifest.Sweep(d, two()); e != api.OK || len(l) != 0 || sight(d) != was {
			t.Errorf("%s: %q, %d", tell(files), l, e)
		}
	}
	d := loaded(t, 100, file("s1", "x"), file("s3", "y"))
	if l, e := manifest.Sweep(d, two()); e != api.OK || !slices.Equal(l, []string{"s3"}) || tell(d.Crash(0)) != `s1="x"` {
		t.Errorf("%q, %d, %s", l, e, tell(d.Crash(0)))
	}
}

// names is those on which the drawn disks below are built.
var names = []string{"MANIFEST", "MANIFEST.tmp", "MANIFEST.tmp", "s1", "s2", "s3", "s10", "s01", "x"}

// drawDisk makes the same drawn disk as often as it is asked.
func drawDisk(t *testing.T, seed int64, quota int) *disk.Disk {
	t.Helper()
	r := rand.New(rand.NewSource(seed))
	d := newDisk(t, quota)
	for range r.Intn(25) {
		name := pick(r, names...)
		switch r.Intn(9) {
		case 0, 1, 2:
			d.Create(name)
		case 3, 4:
			d.Append(name, bytes.Repeat([]byte{byte('a' + r.Intn(9))}, r.Intn(9)))
		case 5:
			d.Sync(name)
		case 6:
			d.Rename(name, pick(r, names...))
		case 7:
			d.Remove(name)
		case 8:
			d.SyncDir()
		}
	}
	return d
}

// slowSwap is the changing calls of a Swap, made by hand.
func slowSwap(d *disk.Disk, m api.Manifest) api.Errno {
	b := frame(slowBody(m)...)
	room := d.Free()
	first := func() api.Errno { return d.Create("MANIFEST.tmp") }
	for _, f := range d.Files() {
		if f.Name == "MANIFEST.tmp" {
			room += len(f.Data)
			first = func() api.Errno { return d.Truncate("MANIFEST.tmp", 0) }
		}
	}
	if len(b) > room {
		return api.ErrFull
	}
	if first() != api.OK || d.Append("MANIFEST.tmp", b) != api.OK || d.Sync("MANIFEST.tmp") != api.OK || d.Rename("MANIFEST.tmp", "MANIFEST") != api.OK || d.SyncDir() != api.OK {
		return api.ErrDown
	}
	return api.OK
}

// slowSweep is those of a Sweep.
func slowSweep(d *disk.Disk, m api.Manifest) ([]string, api.Errno) {
	var out []string
	for _, name := range d.List() {
		isStale := slices.Contains([]string{"MANIFEST.tmp", "s1", "s2", "s3", "s10"}, name)
		for _, s := range m.Segs {
			isStale = isStale && name != fmt.Sprint("s", s.Num)
		}
		if !isStale {
			continue
		}
		if d.Remove(name) != api.OK {
			return nil, api.ErrDown
		}
		out = append(out, name)
	}
	if len(out) > 0 && d.SyncDir() != api.OK {
		return nil, api.ErrDown
	}
	return out, api.OK
}

// manifests is some of which each counts others of the names above.
func manifests() []api.Manifest {
	return []api.Manifest{
		one(), two(),
		{Gen: 3, V: 1, Next: 11, Segs: segs(3, 9, 1, 10, 0, 0)},
		{Gen: 4, V: 2, Next: 40, Top: 4, Segs: segs(1, 9, 1, 2, 9, 1, 3, 9, 1, 10, 9, 1, 39, 0, 0)},
		{Gen: 5, V: 2, Next: 40, Segs: segs(39, 0, 0)},
	}
}

// Promises 8.8, 8.9: just the changing calls that the chapter names, in its order, and none behind that at which the disk goes down: a twin on which they are made by hand goes down at the same place and is left the same, whatever was there.
func TestChangingCalls(t *testing.T) {
	r := rand.New(rand.NewSource(88))
	told := map[api.Errno]int{}
	swept := 0
	for seed := range int64(200) {
		m := pick(r, manifests()...)
		quota := pick(r, 30, 45, 60, 1000)
		for n := -1; n < 8; n++ {
			d, twin := drawDisk(t, seed, quota), drawDisk(t, seed, quota)
			d.Arm(n)
			twin.Arm(n)
			e, want := manifest.Swap(d, m), slowSwap(twin, m)
			told[e]++
			if e != want || sight(d) != sight(twin) {
				t.Fatalf("seed %d, quota %d, Arm(%d), Swap: %d, want %d\n%s\n%s", seed, quota, n, e, want, sight(d), sight(twin))
			}
			d, twin = drawDisk(t, seed, quota), drawDisk(t, seed, quota)
			d.Arm(n)
			twin.Arm(n)
			l, e := manifest.Sweep(d, m)
			l2, want := slowSweep(twin, m)
			swept += len(l)
			if e != want || !slices.Equal(l, l2) || sight(d) != sight(twin) {
				t.Fatalf("seed %d, quota %d, Arm(%d), Sweep: %q, %d, want %q, %d\n%s\n%s", seed, quota, n, l, e, l2, want, sight(d), sight(twin))
			}
		}
	}
	if told[api.OK] < 100 || told[api.ErrFull] < 20 || told[api.ErrDown] < 100 || swept < 100 {
		t.Errorf("%v, %d names swept", told, swept)
	}
}
