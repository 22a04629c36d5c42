package disk_test

import (
	"bytes"
	"fmt"
	"maps"
	"math"
	"math/rand"
	"slices"
	"strings"
	"testing"

	"annals/api"
	"annals/disk"
)

// call is a call of a disk that changes something, told as a value. Arm is one of them here.
type call struct {
	op       string
	name, to string
	data     []byte
	n        int
}

// play makes a call of a disk.
func play(d *disk.Disk, c call) api.Errno {
	switch c.op {
	case "create":
		return d.Create(c.name)
	case "append":
		return d.Append(c.name, c.data)
	case "sync":
		return d.Sync(c.name)
	case "truncate":
		return d.Truncate(c.name, c.n)
	case "rename":
		return d.Rename(c.name, c.to)
	case "remove":
		return d.Remove(c.name)
	case "syncdir":
		return d.SyncDir()
	}
	d.Arm(c.n)
	return api.OK
}

// draw draws a call, mostly on few names, now and then on one that is none.
func draw(r *rand.Rand) call {
	ops := []string{"create", "create", "append", "append", "append", "sync", "truncate", "rename", "rename", "remove", "syncdir"}
	name := func() string {
		if r.Intn(25) == 0 {
			return []string{"", "a b", "a/b"}[r.Intn(3)]
		}
		return []string{"a", "b", "c", "C", "ab"}[r.Intn(5)]
	}
	c := call{op: ops[r.Intn(len(ops))], name: name(), to: name(), n: r.Intn(12) - 1}
	c.data = make([]byte, r.Intn(9))
	r.Read(c.data)
	return c
}

// model is a second reading of the chapter. It keeps no name changes but the names behind each of them, knows files by number, and reckons the room each time.
type model struct {
	quota  int
	data   [][]byte
	synced []int
	past   []map[string]int // past[0]: the lasting names; past[k]: the names behind k changes
	armed  int              // -1: it is not
	down   bool
}

func newModel(quota int) *model {
	return &model{quota: quota, past: []map[string]int{{}}, armed: -1}
}

func (m *model) now() map[string]int { return m.past[len(m.past)-1] }

func (m *model) free() int {
	seen := map[int]int{}
	for _, names := range m.past {
		for _, f := range names {
			seen[f] = len(m.data[f])
		}
	}
	n := m.quota
	for _, size := range seen {
		n -= size
	}
	return n
}

// refusal is the first error of a call, as if the disk were not armed.
func (m *model) refusal(c call) api.Errno {
	bad := func(name string) bool {
		return len(name) < 1 || len(name) > 40 || strings.ContainsFunc(name, func(r rune) bool { return r == '/' || r < 33 || r > 126 })
	}
	if m.down {
		return api.ErrDown
	}
	if c.op == "syncdir" {
		return api.OK
	}
	if bad(c.name) || c.op == "rename" && bad(c.to) {
		return api.ErrPath
	}
	f, there := m.now()[c.name]
	switch {
	case c.op == "create" && there:
		return api.ErrExists
	case c.op != "create" && !there:
		return api.ErrMissing
	case c.op == "truncate" && (c.n < 0 || c.n > len(m.data[f])):
		return api.ErrBeyond
	case c.op == "append" && len(c.data) > m.free():
		return api.ErrFull
	}
	return api.OK
}

func (m *model) play(c call) api.Errno {
	if c.op == "arm" {
		if !m.down {
			m.armed = max(c.n, -1)
		}
		return api.OK
	}
	if e := m.refusal(c); e != api.OK {
		return e
	}
	if m.armed == 0 {
		m.down = true
		return api.ErrDown
	}
	m.armed = max(m.armed-1, -1)
	names := maps.Clone(m.now())
	f := names[c.name]
	switch c.op {
	case "create":
		names[c.name] = len(m.data)
		m.data, m.synced = append(m.data, nil), append(m.synced, 0)
	case "rename":
		delete(names, c.name)
		names[c.to] = f
	case "remove":
		delete(names, c.name)
	case "append":
		m.data[f] = slices.Concat(m.data[f], c.data)
		return api.OK
	case "sync":
		m.synced[f] = len(m.data[f])
		return api.OK
	case "truncate":
		m.data[f] = m.data[f][:c.n:c.n]
		m.synced[f] = min(m.synced[f], c.n)
		return api.OK
	case "syncdir":
		m.past = nil
	}
	m.past = append(m.past, names)
	return api.OK
}

// crash goes byte by byte through what a crash leaves.
func (m *model) crash(keep int, cuts []api.Cut) []api.File {
	if keep < 0 {
		keep = 0
	}
	if keep >= len(m.past) {
		keep = len(m.past) - 1
	}
	var out []api.File
	for k, name := range slices.Sorted(maps.Keys(m.past[keep])) {
		f := m.past[keep][name]
		var c api.Cut
		if k < len(cuts) {
			c = cuts[k]
		}
		var left []byte
		for i, b := range m.data[f] {
			kept := max(c.Keep, 0)
			switch i -= m.synced[f]; {
			case i < kept:
				left = append(left, b)
			case i-kept < c.Zero:
				left = append(left, 0)
			}
		}
		out = append(out, api.File{Name: name, Data: left})
	}
	return out
}

// agree holds all that a disk tells against the model.
func agree(t *testing.T, what any, d *disk.Disk, m *model, r *rand.Rand) {
	t.Helper()
	names := slices.Sorted(maps.Keys(m.now()))
	var files []api.File
	for _, name := range names {
		files = append(files, api.File{Name: name, Data: m.data[m.now()[name]]})
	}
	free := m.free()
	if m.down {
		names, free = nil, 0
	}
	if got := d.List(); d.Down() != m.down || d.Free() != free || !slices.Equal(got, names) {
		t.Fatalf("%v: down %v, free %d, names %v, want %v, %d, %v", what, d.Down(), d.Free(), got, m.down, free, names)
	}
	if got := d.Files(); tell(got) != tell(files) {
		t.Fatalf("%v: the files are %s, want %s", what, tell(got), tell(files))
	}
	for _, f := range files {
		b, e := d.Read(f.Name)
		if m.down && (b != nil || e != api.ErrDown) || !m.down && (!bytes.Equal(b, f.Data) || e != api.OK) {
			t.Fatalf("%v: Read(%s): %q, %d", what, f.Name, b, e)
		}
	}
	for keep := -1; keep <= len(m.past); keep++ {
		_, cuts := anyCuts(r)
		if got, want := d.Crash(keep, cuts...), m.crash(keep, cuts); tell(got) != tell(want) {
			t.Fatalf("%v: Crash(%d, %v): %s, want %s", what, keep, cuts, tell(got), tell(want))
		}
	}
}

// Promises 6.3 to 6.13: long drawn runs against the model, the disk going down in some of them.
func TestAgainstModel(t *testing.T) {
	for seed := range 300 {
		r := rand.New(rand.NewSource(int64(seed)))
		quota := r.Intn(60)
		d, m := empty(t, quota), newModel(quota)
		for i := range 100 {
			c := draw(r)
			if r.Intn(30) == 0 {
				c = call{op: "arm", n: r.Intn(60) - 10}
			}
			got, want := play(d, c), m.play(c)
			what := fmt.Sprintf("seed %d, call %d: %+v", seed, i, c)
			if got != want {
				t.Fatalf("%s: %d, want %d", what, got, want)
			}
			agree(t, what, d, m, r)
		}
	}
}

// Promises 6.3 to 6.13: all short runs of some calls against the model, with the disk going down at each place of them, or not at all.
func TestAllShortRuns(t *testing.T) {
	some := []call{
		{op: "create", name: "a"}, {op: "create", name: "b"},
		{op: "append", name: "a", data: []byte("xyz")}, {op: "append", name: "b", data: []byte("uv")},
		{op: "sync", name: "a"}, {op: "truncate", name: "a", n: 1},
		{op: "rename", name: "a", to: "b"}, {op: "rename", name: "b", to: "a"}, {op: "rename", name: "a", to: "a"},
		{op: "remove", name: "a"}, {op: "remove", name: "b"}, {op: "syncdir"},
	}
	const length = 4
	r := rand.New(rand.NewSource(1))
	for run := range int(math.Pow(float64(len(some)), length)) {
		for armed := -1; armed < length; armed++ {
			// Ahead of each run there is a file with synced and other bytes, so that few calls reach far.
			d, m := empty(t, 8), newModel(8)
			calls := []call{{op: "create", name: "a"}, {op: "append", name: "a", data: []byte("12")}, {op: "sync", name: "a"}, {op: "syncdir"}, {op: "append", name: "a", data: []byte("3")}, {op: "arm", n: armed}}
			for i, n := 0, run; i < length; i, n = i+1, n/len(some) {
				calls = append(calls, some[n%len(some)])
			}
			for _, c := range calls {
				if got, want := play(d, c), m.play(c); got != want {
					t.Fatalf("%+v: %+v: %d, want %d", calls, c, got, want)
				}
			}
			if armed >= 0 && !m.down {
				break // a run that does not reach so far is played already
			}
			agree(t, calls, d, m, r)
		}
	}
}
