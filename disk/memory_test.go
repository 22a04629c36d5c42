package disk_test

import (
	"bytes"
	"fmt"
	"math"
	"math/rand"
	"runtime"
	"slices"
	"strings"
	"sync"
	"testing"

	"annals/api"
	"annals/disk"
)

// spare is bytes with spare room behind them that is not zero.
func spare(s string) []byte {
	whole := []byte(s + "\x01\x01\x01\x01")
	return whole[:len(s):len(whole)]
}

// room is a list with all its spare room.
func room[T any](list []T) []T { return list[:cap(list)] }

// scribble writes into an answer, and behind its end.
func scribble[T any](list []T, v T) {
	for i := range room(list) {
		room(list)[i] = v
	}
}

// scribbleFiles writes into all that a list of files holds.
func scribbleFiles(files []api.File) {
	for _, f := range room(files) {
		scribble(f.Data, 0x5a)
	}
	scribble(files, api.File{Name: "scribble", Data: []byte("scribble")})
}

// Promises 6.2 and 6.14: what is handed in is not changed, its spare room too, and not kept.
func TestArgumentsStay(t *testing.T) {
	files := []api.File{{Name: "a", Data: spare("12")}, {Name: "b", Data: spare("")}, {Name: "c", Data: nil}}
	more := spare("34")
	cuts := []api.Cut{cut(1, 1), cut(-5, 99), cut(math.MaxInt, 0)}
	d, e := disk.Load(50, files[:2])
	if e != api.OK {
		t.Fatal(e)
	}
	done(t, d.Append("a", more))
	done(t, d.Append("b", more))
	left := tell(d.Crash(0, cuts[:2]...))
	is(t, "Crash", left, `a="123\x00" b="\x00\x00"`)
	if !bytes.Equal(room(files[0].Data), []byte("12\x01\x01\x01\x01")) || !bytes.Equal(room(files[1].Data), []byte("\x01\x01\x01\x01")) || files[2].Name != "c" {
		t.Errorf("the files became %v", files)
	}
	is(t, "the bytes", string(room(more)), "34\x01\x01\x01\x01")
	is(t, "the cuts", cuts, fmt.Sprint([]api.Cut{cut(1, 1), cut(-5, 99), cut(math.MaxInt, 0)}))
	scribble(more, 0x5a)
	scribbleFiles(files)
	scribble(cuts, cut(7, 7))
	is(t, "Files", tell(d.Files()), `a="1234" b="34"`)
	is(t, "Crash", tell(d.Crash(0)), `a="12" b=""`)
}

// Promise 6.2: a Load that is refused leaves its list alone too.
func TestRefusedLoadStays(t *testing.T) {
	files := []api.File{{Name: "a", Data: spare("12")}, {Name: "a", Data: spare("3")}}
	if d, e := disk.Load(50, files); d != nil || e != api.ErrExists {
		t.Errorf("Load: %v, %d", d, e)
	}
	if d, e := disk.Load(1, files[:1]); d != nil || e != api.ErrFull {
		t.Errorf("Load: %v, %d", d, e)
	}
	is(t, "the files", tell(files), `a="12" a="3"`)
}

// Promise 6.14: whoever writes into an answer, behind its end too, changes neither the disk nor another answer, nor another file of the same one.
func TestAnswersAreNew(t *testing.T) {
	for n := range 70 {
		text := strings.Repeat("x", n)
		d := loaded(t, 999, file("a", text), file("b", text), file("none", ""))
		for i := range n % 5 {
			done(t, d.Append("a", []byte{byte('0' + i)}))
		}
		cuts := []api.Cut{cut(2, 1), cut(9, 9)}
		files, left, data, names := d.Files(), d.Crash(0, cuts...), func() []byte { b, _ := d.Read("a"); return b }(), d.List()
		was, wasLeft := tell(files), tell(left)
		files2, left2 := d.Files(), d.Crash(0, cuts...)
		scribble(data, 0x5a)
		scribble(names, "scribble")
		for _, list := range [][]api.File{files, left} {
			scribble(list[0].Data, 0x5a)
			is(t, "the next file of the answer", tell(list[1:2]), tell([]api.File{file("b", text)}))
			_ = append(list[1].Data, "behind"...)
			is(t, "the last file of the answer", tell(list[2:]), `none=""`)
			scribbleFiles(list)
		}
		is(t, "another answer", tell(files2)+tell(left2), was+wasLeft)
		is(t, "the disk", tell(d.Files())+tell(d.Crash(0, cuts...)), was+wasLeft)
		is(t, "List", d.List(), "[a b none]")
		done(t, d.Append("a", []byte("later")))
		done(t, d.Truncate("b", 0))
		done(t, d.Append("b", []byte("later")))
		is(t, "an answer, when the disk changes", tell(files2)+tell(left2), was+wasLeft)
	}
}

// Promise 6.14: bytes that were cut off are not there again, neither in an answer nor behind its end in the file.
func TestCutBytesAreGone(t *testing.T) {
	d := loaded(t, 99, file("a", "0123456789"))
	before, _ := d.Read("a")
	done(t, d.Truncate("a", 3))
	cutOff, _ := d.Read("a")
	scribble(cutOff, 0x5a)
	done(t, d.Append("a", []byte("x")))
	is(t, "Read", read(d, "a"), `"012x" 0`)
	is(t, "the answer ahead of it", string(before), "0123456789")
	is(t, "Crash", tell(d.Crash(0, cut(0, 9))), `a="012\x00"`)
}

// Promise 6.6: the memory of what is cut off is let go, so that no more is kept than the disk holds.
func TestCutMemoryIsGone(t *testing.T) {
	d := empty(t, api.MaxQuota)
	data := make([]byte, api.MaxQuota)
	for i := range 100 {
		name := fmt.Sprint("f", i)
		done(t, d.Create(name))
		done(t, d.Append(name, data))
		done(t, d.Truncate(name, i%2))
		if i%2 == 1 {
			done(t, d.Truncate(name, 0))
		}
	}
	var mem runtime.MemStats
	runtime.GC()
	runtime.ReadMemStats(&mem)
	if mem.HeapAlloc > 20*api.MaxQuota {
		t.Errorf("%d bytes are kept", mem.HeapAlloc)
	}
	is(t, "Free", d.Free(), api.MaxQuota)
}

// Promise 6.2: no room is made for files that are too great for the disk.
func TestNoRoomAhead(t *testing.T) {
	data := make([]byte, 1<<20)
	var files []api.File
	for i := range 500 {
		files = append(files, api.File{Name: fmt.Sprint(i), Data: data})
	}
	var before, after runtime.MemStats
	runtime.ReadMemStats(&before)
	d, e := disk.Load(1<<20, files)
	runtime.ReadMemStats(&after)
	if d != nil || e != api.ErrFull {
		t.Errorf("Load: %v, %d", d, e)
	}
	if n := after.TotalAlloc - before.TotalAlloc; n > 10<<20 {
		t.Errorf("%d bytes of room were made", n)
	}
}

// Promise 6.14: two disks have nothing in common, also if one is loaded with what the other tells.
func TestTwoDisks(t *testing.T) {
	a := loaded(t, 50, file("x", "12"), file("y", "3"))
	done(t, a.Append("x", []byte("4")))
	b := loaded(t, 50, a.Files()...)
	c := loaded(t, 50, a.Crash(0)...)
	e := empty(t, 50)
	a.Arm(9)
	done(t, a.Append("x", []byte("aa")))
	done(t, a.Truncate("y", 0))
	done(t, b.Append("x", []byte("bb")))
	done(t, b.Remove("y"))
	done(t, c.Append("x", []byte("cc")))
	done(t, c.Rename("y", "z"))
	is(t, "a", tell(a.Files()), `x="124aa" y=""`)
	is(t, "b", tell(b.Files()), `x="124bb"`)
	is(t, "c", tell(c.Files()), `x="12cc" z="3"`)
	is(t, "e", tell(e.Files()), ``)
	a.Arm(0)
	is(t, "SyncDir", a.SyncDir(), api.ErrDown)
	is(t, "Down", fmt.Sprint(a.Down(), b.Down(), c.Down(), e.Down()), "true false false false")
	answers(t, "SyncDir", all(api.OK, 3), b.SyncDir(), c.SyncDir(), e.SyncDir())
}

// Promise 6.14: no call panics or runs on, whatever it is given.
func TestAnythingIsTaken(t *testing.T) {
	r := rand.New(rand.NewSource(5))
	number := func() int {
		odd := []int{math.MinInt, math.MinInt + 1, -1, 0, 1, 2, 3, api.MaxQuota, math.MaxInt - 1, math.MaxInt, int(r.Uint64())}
		return odd[r.Intn(len(odd))]
	}
	names := []string{"", "a", "b", "~", "\x00", "\xff\xfe", "a/b", "日本", strings.Repeat("x", 40), strings.Repeat("x", 41), strings.Repeat("y", 99999)}
	name := func() string { return names[r.Intn(len(names))] }
	for range 2000 {
		files := []api.File{{Name: name(), Data: make([]byte, r.Intn(5))}, {Name: name()}, {}}
		d, e := disk.Load(number(), files[:r.Intn(4)])
		if (d == nil) != (e != api.OK) {
			t.Fatalf("Load: %v, %d", d, e)
		}
		if d == nil {
			d = empty(t, r.Intn(9))
		}
		for range 20 {
			d.Create(name())
			d.Append(name(), make([]byte, r.Intn(9)))
			d.Truncate(name(), number())
			d.Rename(name(), name())
			d.Sync(name())
			d.Read(name())
			d.List()
			d.Crash(number(), slices.Repeat([]api.Cut{cut(number(), number())}, r.Intn(4))...)
			if r.Intn(8) == 0 {
				d.Remove(name())
				d.SyncDir()
			}
			if r.Intn(40) == 0 {
				d.Arm(number())
			}
			if n := d.Free(); n < 0 || n > api.MaxQuota {
				t.Fatalf("%d bytes are free", n)
			}
			d.Files()
		}
	}
}

// Promise 6.14: calls side by side, each on its own disk, answer as calls one behind the other; and a disk may be looked at side by side.
func TestSideBySide(t *testing.T) {
	var group sync.WaitGroup
	shared := loaded(t, 50, file("a", "12"), file("b", "3"))
	done(t, shared.Append("a", []byte("4")))
	files := shared.Files()
	for i := range 8 {
		group.Go(func() {
			for range 100 {
				d, e := disk.Load(50, files)
				if e != api.OK || d.Create(fmt.Sprint("f", i)) != api.OK || d.Remove("b") != api.OK {
					t.Errorf("worker %d: %d", i, e)
					return
				}
				is(t, "Files", tell(d.Files()), fmt.Sprintf(`a="124" f%d=""`, i))
				is(t, "Crash", tell(d.Crash(0)), `a="124" b="3"`)
				is(t, "Files", tell(shared.Files()), `a="124" b="3"`)
				is(t, "Crash", tell(shared.Crash(0, cut(0, 1))), `a="12\x00" b="3"`)
				is(t, "Read", read(shared, "b"), `"3" 0`)
			}
		})
	}
	group.Wait()
}
