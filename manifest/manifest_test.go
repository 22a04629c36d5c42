package manifest_test

import (
	"math"
	"strconv"
	"strings"
	"testing"

	"annals/api"
	"annals/disk"
	"annals/manifest"
)

// The calls are as the chapter lists them.
var (
	_ func(api.Manifest) api.Errno                         = manifest.Check
	_ func(api.Manifest) ([]byte, api.Errno)               = manifest.Encode
	_ func([]byte) (api.Manifest, api.Errno)               = manifest.Decode
	_ func(*disk.Disk) (api.Manifest, api.Errno)           = manifest.Load
	_ func(*disk.Disk, api.Manifest) api.Errno             = manifest.Swap
	_ func(*disk.Disk, api.Manifest) ([]string, api.Errno) = manifest.Sweep
	_ func(int) string                                     = manifest.Name
	_ func(string) (int, bool)                             = manifest.Num
)

const maxNumber = 1099511627776 // 2^40, as the chapter writes it out

// segs is segments, of each its Num, Size and Count.
func segs(nums ...int) []api.Seg {
	var out []api.Seg
	for i := 0; i < len(nums); i += 3 {
		out = append(out, api.Seg{Num: nums[i], Size: nums[i+1], Count: nums[i+2]})
	}
	return out
}

// one is the manifest of the examples' fourth line, two that of the second Encode.
func one() api.Manifest { return api.Manifest{Gen: 1, V: 3, Next: 2, Segs: segs(1, 0, 0)} }
func two() api.Manifest {
	return api.Manifest{Gen: 2, V: 3, Next: 3, Top: 9, Segs: segs(1, 70, 2, 2, 0, 0)}
}

// many is a manifest of n segments.
func many(n int) api.Manifest {
	m := api.Manifest{Gen: 7, V: 2, Next: n + 1, Top: 5}
	for i := range n {
		m.Segs = append(m.Segs, api.Seg{Num: i + 1, Size: 100 + i, Count: i})
	}
	m.Segs[n-1].Size, m.Segs[n-1].Count = 0, 0
	return m
}

// Promise 8.1: the name of a number from 1 to MaxNumber is s and the number; of every other number there is none.
func TestName(t *testing.T) {
	rows := map[int]string{
		1: "s1", 7: "s7", 9: "s9", 10: "s10", 12: "s12", 100: "s100", 1099511627775: "s1099511627775", maxNumber: "s1099511627776",
		0: "", -1: "", -12: "", maxNumber + 1: "", 1 << 41: "", math.MaxInt: "", math.MinInt: "", -maxNumber: "",
	}
	for num, want := range rows {
		if got := manifest.Name(num); got != want {
			t.Errorf("Name(%d) = %q, want %q", num, got, want)
		}
	}
}

// Promise 8.2: Num knows the names that Name tells, and no other text.
func TestNum(t *testing.T) {
	for _, num := range []int{1, 2, 9, 10, 11, 12, 99, 100, 101, 65536, 999999999999, 1000000000000, maxNumber - 1, maxNumber} {
		if got, is := manifest.Num("s" + strconv.Itoa(num)); got != num || !is {
			t.Errorf("Num of the name of %d = %d, %t", num, got, is)
		}
	}
	wrong := []string{
		"", "s", "S", "s0", "s00", "s007", "s01", "S1", "s1 ", " s1", "s 1", "s+1", "s-1", "s-0", "s+0", "s1.", "s1.0", "s1e3", "s1_0", "s0x1", "s0b1", "s0o7", "0s1", "1", "12", "ss1", "s1s", "s1s1", "x1", "s１",
		"s1\x00", "\x00s1", "s\xff", "s1\n", "s1099511627777", "s01099511627776", "s2199023255552", "s9223372036854775807", "s9223372036854775808", "s18446744073709551617", "s-9223372036854775808",
		"s" + strings.Repeat("0", 40) + "1", "s1" + strings.Repeat("0", 400), "MANIFEST", "MANIFEST.tmp", "manifest",
	}
	for _, name := range wrong {
		if got, is := manifest.Num(name); got != 0 || is {
			t.Errorf("Num(%q) = %d, %t", name, got, is)
		}
	}
}

// Promises 8.1, 8.2: of all short texts over some letters Num knows just those that are a name.
func TestShortNames(t *testing.T) {
	known := map[string]int{}
	for num := range 1000 {
		known[manifest.Name(num)] = num
	}
	delete(known, "")
	letters := "s012S+- _"
	level := []string{""}
	found := 0
	for range 5 {
		var longer []string
		for _, name := range level {
			want, is := known[name]
			if got, has := manifest.Num(name); got != want || has != is {
				t.Fatalf("Num(%q) = %d, %t", name, got, has)
			}
			if is {
				found++
			}
			for _, c := range letters {
				longer = append(longer, name+string(c))
			}
		}
		level = longer
	}
	if found != 2+2*3+2*3*3 {
		t.Errorf("%d names were known", found)
	}
}

// Promise 8.3: the examples of Check.
func TestCheckExamples(t *testing.T) {
	rows := []struct {
		m    api.Manifest
		want api.Errno
	}{
		{one(), api.OK},
		{two(), api.OK},
		{api.Manifest{V: 9}, api.ErrGen},
		{api.Manifest{Gen: 1, V: 9}, api.ErrVersion},
		{api.Manifest{Gen: 1, V: 3, Next: 2}, api.ErrSegs},
		{api.Manifest{Gen: 1, V: 3, Next: 2, Segs: segs(2, 0, 0)}, api.ErrSeg},
		{api.Manifest{Gen: 1, V: 3, Next: 3, Segs: segs(1, 0, 0, 2, 0, 0)}, api.ErrSeg},
		{api.Manifest{Gen: 1, V: 3, Next: 3, Segs: segs(1, 70, 2, 2, 0, 0)}, api.OK},
		{api.Manifest{}, api.ErrGen},
	}
	for i, c := range rows {
		if e := manifest.Check(c.m); e != c.want {
			t.Errorf("row %d: %d, want %d", i, e, c.want)
		}
	}
}

// edges is numbers on both sides of every bound that a manifest has.
var edges = []int{math.MinInt, -maxNumber, -1, 0, 1, 2, 3, 4, 5, 6, 524287, 524288, 524289, maxNumber - 1, maxNumber, maxNumber + 1, math.MaxInt - 1, math.MaxInt}

// Promise 8.3: each field has its own bounds and its own error.
func TestFieldBounds(t *testing.T) {
	rows := []struct {
		name        string
		set         func(m *api.Manifest, v int)
		least, most int
		e           api.Errno
	}{
		{"Gen", func(m *api.Manifest, v int) { m.Gen = v }, 1, maxNumber, api.ErrGen},
		{"V", func(m *api.Manifest, v int) { m.V = v }, 1, 3, api.ErrVersion},
		{"Next", func(m *api.Manifest, v int) { m.Next = v }, 1, maxNumber, api.ErrNext},
		{"Top", func(m *api.Manifest, v int) { m.Top = v }, 0, math.MaxInt, api.ErrTop},
		{"Num of the first", func(m *api.Manifest, v int) { m.Segs[0].Num = v }, 1, 3, api.ErrSeg},
		{"Size of the first", func(m *api.Manifest, v int) { m.Segs[0].Size = v }, 1, 524288, api.ErrSeg},
		{"Count of the first", func(m *api.Manifest, v int) { m.Segs[0].Count = v }, 0, 524288, api.ErrSeg},
		{"Num of the second", func(m *api.Manifest, v int) { m.Segs[1].Num = v }, 3, 5, api.ErrSeg},
		{"Size of the second", func(m *api.Manifest, v int) { m.Segs[1].Size = v }, 1, 524288, api.ErrSeg},
		{"Count of the second", func(m *api.Manifest, v int) { m.Segs[1].Count = v }, 0, 524288, api.ErrSeg},
		{"Num of the last", func(m *api.Manifest, v int) { m.Segs[2].Num = v }, 5, maxNumber - 1, api.ErrSeg},
		{"Size of the last", func(m *api.Manifest, v int) { m.Segs[2].Size = v }, 0, 0, api.ErrSeg},
		{"Count of the last", func(m *api.Manifest, v int) { m.Segs[2].Count = v }, 0, 0, api.ErrSeg},
	}
	for _, c := range rows {
		for _, v := range edges {
			m := api.Manifest{Gen: 1, V: 1, Next: maxNumber, Segs: segs(2, 9, 1, 4, 9, 1, 6, 0, 0)}
			if c.name == "Next" {
				m.Segs = segs(1, 0, 0)
			}
			c.set(&m, v)
			want := api.OK
			if v < c.least || v > c.most {
				want = c.e
			}
			if c.name == "Next" && v == 1 {
				want = api.ErrSeg // below it no segment has a number
			}
			if e := manifest.Check(m); e != want {
				t.Errorf("%s %d: %d, want %d", c.name, v, e, want)
			}
		}
	}
}

// Promise 8.3: there are 1 to 128 segments, and their numbers rise up to Next - 1.
func TestSegments(t *testing.T) {
	for n := 1; n <= 128; n++ {
		if e := manifest.Check(many(n)); e != api.OK {
			t.Errorf("%d segments: %d", n, e)
		}
	}
	for _, n := range []int{129, 130, 1000} {
		if e := manifest.Check(many(n)); e != api.ErrSegs {
			t.Errorf("%d segments: %d", n, e)
		}
	}
	m := many(40)
	m.Next = 40
	if e := manifest.Check(m); e != api.ErrSeg {
		t.Errorf("the last has the number Next: %d", e)
	}
	m.Next = maxNumber
	if e := manifest.Check(m); e != api.OK {
		t.Errorf("Next far above: %d", e)
	}
	for i := range 39 {
		m := many(40)
		m.Next = 50
		m.Segs[i+1].Num = m.Segs[i].Num
		if e := manifest.Check(m); e != api.ErrSeg {
			t.Errorf("segment %d has the number of the one before it: %d", i+1, e)
		}
		m = many(40)
		m.Segs[i].Num, m.Segs[i+1].Num = m.Segs[i+1].Num, m.Segs[i].Num
		if e := manifest.Check(m); e != api.ErrSeg {
			t.Errorf("segments %d and %d have each other's number: %d", i, i+1, e)
		}
		m = many(40)
		m.Segs[i].Size, m.Segs[i].Count = 0, 0
		if e := manifest.Check(m); e != api.ErrSeg {
			t.Errorf("segment %d is as if it were active: %d", i, e)
		}
	}
}

// Promise 8.3: of several faults the first in the order of the fields is told.
func TestOrderOfErrors(t *testing.T) {
	faults := []struct {
		e    api.Errno
		make func(m *api.Manifest)
	}{
		{api.ErrGen, func(m *api.Manifest) { m.Gen = 0 }},
		{api.ErrVersion, func(m *api.Manifest) { m.V = 4 }},
		{api.ErrNext, func(m *api.Manifest) { m.Next = 0 }},
		{api.ErrTop, func(m *api.Manifest) { m.Top = -1 }},
		{api.ErrSegs, func(m *api.Manifest) { m.Segs = many(129).Segs }},
		{api.ErrSeg, func(m *api.Manifest) { m.Segs[0].Size = -1 }},
	}
	for set := range 1 << len(faults) {
		m := two()
		want := api.OK
		for i, f := range faults {
			if set>>i&1 == 0 {
				continue
			}
			f.make(&m)
			if want == api.OK {
				want = f.e
			}
		}
		b, e := manifest.Encode(m)
		if got := manifest.Check(m); got != want || e != want || (len(b) == 0) != (want != api.OK) {
			t.Errorf("faults %06b: Check %d, Encode %d, want %d", set, got, e, want)
		}
	}
}
