package store_test

import (
	"bytes"
	"fmt"
	"math/rand"
	"slices"
	"testing"

	"annals/api"
	"annals/disk"
	"annals/manifest"
	"annals/store"
)

var usual = api.Options{V: 1, Limit: 64}

// over is a pair over the same files that is not yet opened.
func over(t *testing.T, quota int, files ...api.File) *pair {
	t.Helper()
	return &pair{d: loaded(t, quota, files...), w: &twin{d: loaded(t, quota, files...)}}
}

// Promise 9.2: what is wrong with what is handed in, in its order, ahead of all that is wrong on the disk.
func TestOpenArguments(t *testing.T) {
	rows := []struct {
		o    api.Options
		want api.Errno
	}{
		{api.Options{V: 0, Limit: 64}, api.ErrVersion}, {api.Options{V: 4, Limit: 64}, api.ErrVersion}, {api.Options{V: -1, Limit: 0}, api.ErrVersion}, {api.Options{}, api.ErrVersion}, {api.Options{V: 4, Limit: -9}, api.ErrVersion},
		{api.Options{V: 1, Limit: 63}, api.ErrOptions}, {api.Options{V: 3, Limit: 65537}, api.ErrOptions}, {api.Options{V: 2}, api.ErrOptions}, {api.Options{V: 2, Limit: -64}, api.ErrOptions},
	}
	for _, files := range [][]api.File{nil, {file("MANIFEST", []byte("none"))}, {file("s1", nil)}} {
		for _, c := range rows {
			p := over(t, 100, files...)
			if got := p.open(t, c.o); got != refusal("open", "", -1, c.want) || len(p.d.Files()) != len(files) {
				t.Errorf("%+v: %s", c.o, got)
			}
			if s, err := store.Open(nil, c.o); s != nil || fields(t, err) != refusal("open", "", -1, api.ErrArg) {
				t.Errorf("no disk, %+v: %v", c.o, err)
			}
		}
	}
	for _, o := range []api.Options{{V: 1, Limit: 64}, {V: 2, Limit: 65536}, {V: 3, Limit: 65}} {
		if got := over(t, 100).open(t, o); got != "" {
			t.Errorf("%+v: %s", o, got)
		}
	}
}

// leftovers is what a making that was cut short may have left, and foreign files beside it.
func leftovers() []api.File {
	return []api.File{file("MANIFEST.tmp", []byte("torn")), file("MANIFES", []byte("x")), file("MANIFEST.tmp2", []byte("foreign")), file("s", nil), file("s0", []byte("0")), file("s007", []byte("7")), file("s1", []byte("ANLS")), file("s10", bytes.Repeat([]byte("t"), 30)), file("s2", []byte("two")), file("s1099511627776", []byte("last")), file("s1099511627777", []byte("beyond")), file("S1", []byte("S"))}
}

// Promise 9.2: where there is no manifest, a store is made; the room that it needs is asked to the byte, with the files that give way counted as free; foreign files stay.
func TestMaking(t *testing.T) {
	for _, files := range [][]api.File{nil, {file("x", []byte("foreign"))}, {file("s1", make([]byte, 30))}, {file("MANIFEST.tmp", []byte("12")), file("s2", nil)}, leftovers()} {
		taken, give := 0, 0
		for _, f := range files {
			taken += len(f.Data)
			if isStores(f.Name) {
				give += len(f.Data)
			}
		}
		for quota := taken; quota < taken+30; quota++ {
			p := over(t, quota, files...)
			got := p.open(t, usual)
			want := ""
			if quota-taken+give < 20 { // the header's 5, and 15 of the manifest's frame
				want = refusal("open", "", -1, api.ErrFull)
			}
			if got != want {
				t.Errorf("%s, quota %d: %s, want %s", tell(files), quota, got, want)
			}
			if want != "" && tell(p.d.Files()) != tell(loaded(t, quota, files...).Files()) {
				t.Errorf("quota %d: refused, and the files are %s", quota, tell(p.d.Files()))
			}
		}
	}
	for v := 1; v <= 3; v++ {
		d, s := fresh(t, 100, api.Options{V: v, Limit: 64})
		m := api.Manifest{Gen: 1, V: v, Next: 2, Segs: []api.Seg{{Num: 1}}}
		if want := []api.File{file("MANIFEST", manifestBytes(m)), file("s1", openBytes(v))}; tell(d.Files()) != tell(want) || numbers(s) != fmt.Sprint("1 ", v, " 2 0 1 0 0 5 5") {
			t.Errorf("version %d: %s, %s", v, tell(d.Files()), numbers(s))
		}
	}
}

// Promise 9.2: the changing calls of the making, one by one.
func TestMakingCalls(t *testing.T) {
	rows := []struct {
		files []api.File
		calls int
	}{{nil, 8}, {[]api.File{file("x", nil)}, 8}, {[]api.File{file("s1", []byte("x"))}, 10}, {leftovers(), 5 + 1 + 8}}
	for _, c := range rows {
		n := everywhere(t, func() *pair { return over(t, 4096, c.files...) }, func(p *pair) { p.open(t, usual) })
		if n != c.calls {
			t.Errorf("over %s: %d changing calls, want %d", tell(c.files), n, c.calls)
		}
	}
}

// sample is the files of a store of three closed segments, of the versions 1, 1 and 2, and an active one of version 3.
func sample(t *testing.T) []api.File {
	t.Helper()
	d, s := fresh(t, 4096, usual)
	for _, err := range []error{s.Append(ends(1, 1, 2, 3)...), s.Rotate(), s.Append(ends(1, 2, 2)...), s.Raise(2), s.Append(ends(1, 5)...), s.Raise(3), s.Append(ends(3, 1, 2, 1)...), s.Sync()} {
		if err != nil {
			t.Fatal(err)
		}
	}
	return d.Files()
}

// with is files in which those of that name have other bytes.
func with(files []api.File, name string, b []byte) []api.File {
	out := slices.Clone(files)
	for i := range out {
		if out[i].Name == name {
			out[i].Data = b
		}
	}
	return out
}

func without(files []api.File, name string) []api.File {
	return slices.DeleteFunc(slices.Clone(files), func(f api.File) bool { return f.Name == name })
}

// dataOf is the bytes of the file of that name.
func dataOf(files []api.File, name string) []byte {
	i := slices.IndexFunc(files, func(f api.File) bool { return f.Name == name })
	return files[i].Data
}

// refuses tells if Open does not answer a fault, or changes a file, or makes a changing call.
func refuses(t *testing.T, what string, files []api.File, name string, e api.Errno) {
	t.Helper()
	p := over(t, 1<<20, files...)
	p.arm(0)
	if got, want := p.open(t, usual), refusal("open", name, -1, e); got != want {
		t.Errorf("%s: %s, want %s", what, got, want)
	}
	if p.d.Down() || tell(p.d.Files()) != tell(loaded(t, 1<<20, files...).Files()) {
		t.Errorf("%s: the disk became another", what)
	}
}

// Promises 9.2, 9.16: what is wrong with a manifest.
func TestWrongManifest(t *testing.T) {
	files := sample(t)
	b := dataOf(files, "MANIFEST")
	turned := bytes.Clone(b)
	turned[3] ^= 1
	refuses(t, "no byte", with(files, "MANIFEST", nil), "MANIFEST", api.ErrShort)
	refuses(t, "cut off", with(files, "MANIFEST", b[:len(b)-1]), "MANIFEST", api.ErrShort)
	refuses(t, "a byte behind", with(files, "MANIFEST", append(bytes.Clone(b), 0)), "MANIFEST", api.ErrManifest)
	refuses(t, "a bit turned over", with(files, "MANIFEST", turned), "MANIFEST", api.ErrSum)
	refuses(t, "a manifest ahead of a lost segment", without(with(files, "MANIFEST", turned), "s1"), "MANIFEST", api.ErrSum)
}

// Promises 9.2, 9.16: what is wrong with a closed segment: it is missing, of another length, not read, of a version above the manifest's, with other records than are counted.
func TestWrongSealed(t *testing.T) {
	files := sample(t)
	m, _ := manifest.Decode(dataOf(files, "MANIFEST"))
	for i, seg := range m.Segs[:3] {
		name := nameOf(seg.Num)
		b := dataOf(files, name)
		refuses(t, "missing", without(files, name), name, api.ErrLost)
		refuses(t, "no byte", with(files, name, nil), name, api.ErrCorrupt)
		refuses(t, "a byte behind", with(files, name, append(bytes.Clone(b), 0)), name, api.ErrCorrupt)
		refuses(t, "cut off", with(files, name, b[:len(b)-1]), name, api.ErrCorrupt)
		refuses(t, "not sealed", with(files, name, openBytes(1, ends(1, 1)...)), name, api.ErrCorrupt)
		refuses(t, "too long", with(files, name, make([]byte, 524289)), name, api.ErrCorrupt)
		for at := range b {
			other := bytes.Clone(b)
			other[at] ^= 0x40
			refuses(t, "a bit turned over", with(files, name, other), name, api.ErrCorrupt)
		}
		for _, wrong := range []api.Seg{{Num: seg.Num, Size: seg.Size + 1, Count: seg.Count}, {Num: seg.Num, Size: seg.Size - 1, Count: seg.Count}, {Num: seg.Num, Size: seg.Size, Count: seg.Count + 1}, {Num: seg.Num, Size: seg.Size, Count: seg.Count - 1}} {
			n := m
			n.Segs = slices.Clone(m.Segs)
			n.Segs[i] = wrong
			if manifest.Check(n) == api.OK {
				refuses(t, "another Size or Count", with(files, "MANIFEST", manifestBytes(n)), name, api.ErrCorrupt)
			}
		}
		// A whole one of the same length, of another version: at most the manifest's.
		for v := 1; v <= 3; v++ {
			for top := v; top <= 3; top++ {
				n := m
				n.V = top
				other := with(files, name, sealedBytes(v, ends(v, slices.Repeat([]int{1}, seg.Count)...)...))
				other = with(other, "s4", openBytes(top))
				n.Segs = slices.Clone(m.Segs)
				n.Segs[i].Size = len(dataOf(other, name))
				if p := over(t, 4096, with(other, "MANIFEST", manifestBytes(n))...); top == 3 && p.open(t, usual) != "" {
					t.Errorf("segment %d of version %d in a store of version %d is refused", i, v, top)
				}
				if v == 3 {
					n.V = 2
					refuses(t, "a version above the manifest's", with(with(other, "MANIFEST", manifestBytes(n)), "s4", openBytes(2)), name, api.ErrCorrupt)
				}
			}
		}
	}
}

// Promises 9.2, 9.16: what is wrong with the active segment: it is missing, has no header, is too long, is of another version than the manifest's.
func TestWrongActive(t *testing.T) {
	files := sample(t)
	b := dataOf(files, "s4")
	refuses(t, "missing", without(files, "s4"), "s4", api.ErrLost)
	for size := range 5 {
		refuses(t, "no header", with(files, "s4", b[:size]), "s4", api.ErrCorrupt)
	}
	refuses(t, "another header", with(files, "s4", append([]byte("ANLT"), b[4:]...)), "s4", api.ErrCorrupt)
	for v := range 6 {
		other := append(append([]byte("ANLS"), byte(v)), b[5:]...)
		if v != 3 {
			refuses(t, "another version", with(files, "s4", other), "s4", api.ErrCorrupt)
		}
	}
	refuses(t, "too long", with(files, "s4", append(bytes.Clone(b), make([]byte, 524289-len(b))...)), "s4", api.ErrCorrupt)
	p := over(t, 1<<20, with(files, "s4", append(bytes.Clone(b), make([]byte, 524288-len(b))...))...)
	if got := p.open(t, usual); got != "" || p.s.Stat().Size != len(b) {
		t.Errorf("as long as may be: %s, %s", got, numbers(p.s))
	}
}

// Promise 9.2: the first segment with which something is wrong decides.
func TestFirstWrongSegment(t *testing.T) {
	files := sample(t)
	refuses(t, "s2 corrupt, s3 lost", without(with(files, "s2", nil), "s3"), "s2", api.ErrCorrupt)
	refuses(t, "s2 lost, s3 corrupt", without(with(files, "s3", nil), "s2"), "s2", api.ErrLost)
	refuses(t, "s3 lost, s4 corrupt", without(with(files, "s4", nil), "s3"), "s3", api.ErrLost)
	refuses(t, "s1 corrupt, s4 lost", without(with(files, "s1", nil), "s4"), "s1", api.ErrCorrupt)
	refuses(t, "all lost", files[:1], "s1", api.ErrLost)
}

// Promises 9.2, 9.14: what lies behind the good run of the active segment is cut off, whatever it is; the changing calls of it, one by one.
func TestTorn(t *testing.T) {
	files := sample(t)
	good := dataOf(files, "s4")
	footer := sealedBytes(3, ends(3, 1, 2, 1)...)[len(good):]
	frame := openBytes(3, end(3, 9))[5:]
	rows := []struct {
		name  string
		b     []byte
		calls int
	}{
		{"whole", nil, 1}, {"zeros", make([]byte, 9), 2}, {"a torn frame", frame[:10], 2}, {"a torn frame and zeros", append(bytes.Clone(frame[:7]), 0, 0, 0), 2},
		{"a footer", footer, 2}, {"a torn footer", footer[:9], 2}, {"a footer, and a frame", slices.Concat(footer, frame), 2}, {"a frame of version 1 that none of 3 is", []byte{0x01, 0x52, 0, 0, 0, 0, 0xa5}, 2}, {"rubbish", []byte("rubbish"), 2},
	}
	for _, c := range rows {
		torn := with(files, "s4", slices.Concat(good, c.b))
		n := everywhere(t, func() *pair { return over(t, 4096, torn...) }, func(p *pair) {
			if p.open(t, usual) == "" && (numbers(p.s) != "4 3 5 0 4 9 0 38 186" || tell(p.d.Files()) != tell(files)) {
				t.Fatalf("%s: %s, %s", c.name, numbers(p.s), tell(p.d.Files()))
			}
		})
		if n != c.calls {
			t.Errorf("%s: %d changing calls, want %d", c.name, n, c.calls)
		}
	}
	// A frame behind a whole one is a record, if it is good.
	p := over(t, 4096, with(files, "s4", slices.Concat(good, frame))...)
	if got := p.open(t, usual); got != "" || p.s.Stat().Records != 10 {
		t.Errorf("a good frame: %s, %s", got, numbers(p.s))
	}
}

// Promise 9.2: files that do not count are removed, foreign ones stay; no room is needed for it, and o.V is not looked at further.
func TestSwept(t *testing.T) {
	files := sample(t)
	more := append(slices.Clone(files), file("MANIFEST.tmp", []byte("torn")), file("s5", []byte("five")), file("s40", nil), file("s04", []byte("foreign")), file("y", []byte("y")))
	size := 0
	for _, f := range more {
		size += len(f.Data)
	}
	n := everywhere(t, func() *pair { return over(t, size, more...) }, func(p *pair) {
		if p.open(t, api.Options{V: 2, Limit: 100}) == "" && fmt.Sprint(p.d.List()) != "[MANIFEST s04 s1 s2 s3 s4 y]" {
			t.Fatalf("behind it there are %v", p.d.List())
		}
	})
	if n != 5 {
		t.Errorf("%d changing calls", n)
	}
	for v := 1; v <= 3; v++ {
		p := over(t, size, more...)
		if got := p.open(t, api.Options{V: v, Limit: 64}); got != "" || p.s.Stat().V != 3 {
			t.Errorf("opened with version %d: %s, %s", v, got, numbers(p.s))
		}
	}
}

// Promise 9.2: what was written and not synced is found, and lasts then.
func TestOpenedAgain(t *testing.T) {
	p := newPair(t, 4096, usual)
	p.append(t, ends(1, 1, 2, 3)...)
	left := p.s.Stat()
	if got := p.open(t, api.Options{V: 3, Limit: 100}); got != "" || left.Pending != 3 || p.s.Stat().Pending != 0 {
		t.Fatalf("%s, %+v", got, p.s.Stat())
	}
	u := opened(t, loaded(t, 4096, p.d.Crash(0)...), usual)
	if u.Stat().Records != 3 {
		t.Errorf("behind a crash: %s", numbers(u))
	}
	// The limit is that of the last Open.
	p.append(t, ends(1, 1, 2, 3)...)
	if p.s.Stat().Segs != 1 || p.s.Stat().Size != 71 {
		t.Errorf("the limit is not 100: %s", numbers(p.s))
	}
}

// Promise 9.16: files of all kinds, some of them near to a store's, are a store's or a fault's, and with a fault they stay.
func TestAnyFiles(t *testing.T) {
	t.Parallel()
	r := rand.New(rand.NewSource(916))
	files := sample(t)
	names := []string{"MANIFEST", "MANIFEST.tmp", "s1", "s2", "s3", "s4", "s5", "s9", "x"}
	told := map[string]int{}
	for range 4000 {
		var list []api.File
		for _, name := range names {
			b := []byte{}
			if i := slices.IndexFunc(files, func(f api.File) bool { return f.Name == name }); i >= 0 {
				b = bytes.Clone(files[i].Data)
			}
			switch k := r.Intn(60); {
			case k == 0:
				continue
			case k == 1:
				r.Read(b)
			case k == 2 && len(b) > 0:
				b = b[:r.Intn(len(b))]
			case k == 3 && len(b) > 0:
				b[r.Intn(len(b))] ^= 1 << r.Intn(8)
			case k == 4:
				b = append(b, make([]byte, r.Intn(9))...)
			case k == 5:
				b = pick(r, files...).Data
			case k == 6:
				m := api.Manifest{Gen: 1 + r.Intn(9), V: 1 + r.Intn(3), Next: 6, Top: r.Intn(9)}
				for num := 1; num < 6; num++ {
					if r.Intn(2) == 0 {
						m.Segs = append(m.Segs, api.Seg{Num: num, Size: len(dataOf(files, nameOf(min(num, 4)))), Count: r.Intn(4)})
					}
				}
				if len(m.Segs) > 0 {
					m.Segs[len(m.Segs)-1] = api.Seg{Num: m.Segs[len(m.Segs)-1].Num}
					b = manifestBytes(m)
				}
			}
			list = append(list, file(name, b))
		}
		size := 0
		for _, f := range list {
			size += len(f.Data)
		}
		p := over(t, size+r.Intn(30), list...)
		p.arm(pick(r, -1, -1, r.Intn(6)))
		got := p.open(t, api.Options{V: 1 + r.Intn(3), Limit: 64})
		told[got]++
		if got != "" && !p.d.Down() && tell(p.d.Files()) != tell(list) {
			t.Fatalf("%s, and the files are %s, not %s", got, tell(p.d.Files()), tell(list))
		}
	}
	for _, want := range []string{"", refusal("open", "s1", -1, api.ErrLost), refusal("open", "s2", -1, api.ErrCorrupt), refusal("open", "s4", -1, api.ErrLost), refusal("open", "s4", -1, api.ErrCorrupt), refusal("open", "MANIFEST", -1, api.ErrSum), refusal("open", "", -1, api.ErrDown)} {
		if told[want] == 0 {
			t.Errorf("never told: %s", want)
		}
	}
}

// A disk that nobody made has no room.
func TestZeroDisk(t *testing.T) {
	if s, err := store.Open(new(disk.Disk), usual); s != nil || text(err) != "open: error 64" {
		t.Errorf("%v, %v", s, err)
	}
}
