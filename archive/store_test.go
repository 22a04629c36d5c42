package archive_test

import (
	"errors"
	"fmt"
	"math/rand"
	"slices"
	"strings"
	"testing"

	"annals/api"
	"annals/archive"
	"annals/disk"
	"annals/record"
	"annals/store"
)

var usual = api.Options{V: 3, Limit: 64}

// Promise 17.4: what a fault says, and what is asked through it.
func TestFault(t *testing.T) {
	for _, c := range []struct {
		f    archive.Fault
		want string
	}{
		{archive.Fault{Why: "backup", Err: api.ErrArg}, "backup: error 1"},
		{archive.Fault{Why: "restore", Err: &store.Fault{Op: "replace", At: 3, Err: api.ErrNewer}}, "restore: replace #3: error 90"},
		{archive.Fault{Why: "restore", Err: &store.Fault{Op: "open", At: -1}}, "restore: open: nothing"},
		{archive.Fault{Why: "restore"}, "restore: nothing"},
		{archive.Fault{}, ": nothing"},
		{archive.Fault{Why: "x", Err: &archive.Fault{Why: "y"}}, "x: y: nothing"},
		{archive.Fault{Why: "x", Err: errors.New("z")}, "x: z"},
	} {
		if got := c.f.Error(); got != c.want {
			t.Errorf("%q, not %q", got, c.want)
		}
		if c.f.Unwrap() != c.f.Err {
			t.Errorf("%q: %v", c.want, c.f.Unwrap())
		}
	}
	var err error = &archive.Fault{Why: "restore", Err: &store.Fault{Op: "open", At: -1, Err: api.ErrFull}}
	var f *archive.Fault
	var g *store.Fault
	var e api.Errno
	if !errors.Is(err, api.ErrFull) || errors.Is(err, api.ErrDown) || !errors.As(err, &f) || !errors.As(err, &g) || !errors.As(err, &e) || g.Op != "open" || e != api.ErrFull {
		t.Error("an error is not found through the chain")
	}
}

// drawn is a store behind drawn calls, all versions mingled; the same seed draws the same. Calls that a small disk refuses leave it as it was.
func drawn(t *testing.T, seed int64, quota int) (*disk.Disk, *store.Store) {
	t.Helper()
	r := rand.New(rand.NewSource(seed))
	d := newDisk(t, quota)
	s, err := store.Open(d, api.Options{V: 1 + r.Intn(3), Limit: 64 + r.Intn(200)})
	must(t, err)
	for range r.Intn(25) {
		switch r.Intn(12) {
		case 0:
			s.Sync()
		case 1:
			s.Rotate()
		case 2:
			s.Raise(1 + r.Intn(3))
		case 3:
			if recs, err := s.Records(); err == nil {
				s.Replace(s.Stat().V, r.Intn(200), recs...)
			}
		default:
			s.Append(drawRecs(r, s.Stat().V, 1+r.Intn(3))...)
		}
	}
	return d, s
}

// Promise 17.5: a backup is the store's Top and all its records, those that are pending with them; it changes nothing, and makes no changing call.
func TestBackup(t *testing.T) {
	pending := 0
	for seed := range int64(300) {
		d, s := drawn(t, seed, 1<<16)
		d.Arm(0)
		was := view(d, s)
		b, err := archive.Backup(s)
		if err != nil || !slices.Equal(b, packed(s.Stat().Top, listOf(t, s)...)) {
			t.Fatalf("seed %d: % x, %v", seed, b, err)
		}
		if view(d, s) != was {
			t.Fatalf("seed %d: Backup changes the store", seed)
		}
		if s.Stat().Pending > 0 {
			pending++
		}
	}
	if pending < 50 {
		t.Errorf("of only %d stores records were pending", pending)
	}
}

// Promises 17.4, 17.5: what Backup refuses.
func TestBackupRefusals(t *testing.T) {
	holds := func(s *store.Store, want string) {
		t.Helper()
		if b, err := archive.Backup(s); chain(t, err) != want || b != nil {
			t.Errorf("%q, not %q", chain(t, err), want)
		}
	}
	holds(nil, "backup 1")
	d, s := drawn(t, 3, 1<<16)
	d.Arm(0)
	d.SyncDir()
	holds(s, `backup store records "" -1 60`)
	d, s = drawn(t, 3, 1<<16)
	name := d.List()[1]
	b, _ := d.Read(name)
	d.Truncate(name, 3)
	holds(s, `backup store records "" -1 94`)
	d.Remove(name)
	holds(s, `backup store records "" -1 95`)
	d.Create(name)
	d.Append(name, b)
	if _, err := archive.Backup(s); err != nil {
		t.Errorf("as it was: %v", err)
	}
}

// Promises 17.4, 17.6: what Restore refuses ahead of all that the store is asked, in its order: each row is refused for what it names and for all that the rows behind it are.
func TestRestoreOrder(t *testing.T) {
	good, long := packed(9, end(1, 1)), make([]byte, maxArchive+1)
	clear := func() *disk.Disk { return newDisk(t, 4096) }
	down := func() *disk.Disk {
		d := newDisk(t, 4096, file("MANIFEST", 3))
		d.Arm(0)
		d.SyncDir()
		return d
	}
	used := func() *disk.Disk { return newDisk(t, 4096, file("MANIFEST", 3)) }
	none := func() *disk.Disk { return nil }
	for i, c := range []struct {
		d    func() *disk.Disk
		o    api.Options
		b    []byte
		want string
	}{
		{none, api.Options{}, long, "restore 1"},
		{none, usual, good, "restore 1"},
		{down, api.Options{}, long, "restore 2"},
		{clear, usual, long, "restore 2"},
		{down, api.Options{}, nil, "restore 60"},
		{down, usual, good, "restore 60"},
		{used, api.Options{}, nil, "restore 3"},
		{clear, api.Options{V: 0, Limit: 64}, good, "restore 3"},
		{clear, api.Options{V: 4, Limit: 64}, good, "restore 3"},
		{clear, api.Options{V: -1, Limit: 65537}, good, "restore 3"},
		{used, api.Options{V: 3, Limit: 0}, nil, "restore 93"},
		{clear, api.Options{V: 3, Limit: 63}, good, "restore 93"},
		{clear, api.Options{V: 1, Limit: 65537}, good, "restore 93"},
		{clear, api.Options{V: 1, Limit: -64}, nil, "restore 93"},
		{used, usual, nil, "restore 170"},
		{used, usual, good[:20], "restore 10"},
		{used, usual, append(slices.Clone(good), 0), "restore 172"},
		{clear, usual, ended(first(0, 1)), "restore 171"},
		{clear, usual, ended(first(0, 1), framed('R', 9)), "restore 3"},
		{used, usual, good, "restore 173"},
		{used, api.Options{V: 2, Limit: 64}, packed(0, end(3, 1)), "restore 173"},
		{clear, api.Options{V: 2, Limit: 64}, packed(0, end(1, 1), end(3, 1)), `restore store replace "" 1 90`},
		{clear, usual, good, ""},
		{clear, api.Options{V: 1, Limit: 65536}, good, ""},
	} {
		d := c.d()
		was := ""
		if d != nil {
			was = sight(d)
		}
		s, err := archive.Restore(d, c.o, c.b)
		if got := chain(t, err); got != c.want || (s == nil) != (c.want != "") {
			t.Errorf("row %d: %q, not %q", i, got, c.want)
		}
		if c.want != "" && d != nil && sight(d) != was {
			t.Errorf("row %d changes the disk", i)
		}
	}
}

// Promise 17.6: a file MANIFEST is in the way, whatever it holds; no other is.
func TestRestoreUsed(t *testing.T) {
	good := packed(9, end(1, 1))
	for _, n := range []int{0, 1, 15, 99} {
		if _, err := archive.Restore(newDisk(t, 4096, file("MANIFEST", n)), usual, good); chain(t, err) != "restore 173" {
			t.Errorf("%d bytes: %v", n, err)
		}
	}
	for _, name := range []string{"MANIFEST.tmp", "manifest", "s1", "s2", "s99", "MANIFEST1", "x"} {
		d := newDisk(t, 4096, file(name, 40))
		if s, err := archive.Restore(d, usual, good); err != nil || s.Stat().Records != 1 {
			t.Errorf("%s: %v", name, err)
		}
		_, e := d.Read(name)
		if foreign := name == "manifest" || name == "MANIFEST1" || name == "x"; name != "s2" && (e == api.OK) != foreign {
			t.Errorf("%s: %d", name, e)
		}
	}
	d, s := drawn(t, 8, 1<<16)
	if _, err := archive.Restore(d, usual, good); chain(t, err) != "restore 173" {
		t.Errorf("a store's disk: %v", err)
	}
	if _, err := archive.Backup(s); err != nil {
		t.Errorf("that store: %v", err)
	}
}

// littered is a disk without a manifest on which files stand and stood, a store's and others, synced and not; the same seed draws the same.
func littered(t *testing.T, seed int64, quota int) *disk.Disk {
	t.Helper()
	r := rand.New(rand.NewSource(seed))
	d := newDisk(t, quota)
	names := []string{"MANIFEST.tmp", "s1", "s2", "s3", "s77", "x", "y", "z"}
	for range r.Intn(20) {
		name := pick(r, names...)
		switch r.Intn(8) {
		case 0, 1, 2:
			d.Create(name)
			d.Append(name, drawBytes(r, r.Intn(40)))
		case 3:
			d.Sync(name)
		case 4:
			d.Remove(name)
		case 5:
			d.Rename(name, pick(r, names...))
		case 6:
			d.SyncDir()
		case 7:
			b, _ := d.Read(name)
			d.Truncate(name, r.Intn(len(b)+1))
		}
	}
	return d
}

// alike is a disk with the same files, all synced, and as much free room.
func alike(t *testing.T, d *disk.Disk) *disk.Disk {
	t.Helper()
	quota := d.Free()
	for _, f := range d.Files() {
		quota += len(f.Data)
	}
	return newDisk(t, quota, d.Files()...)
}

// byHand is what Restore is behind all that it asks itself.
func byHand(d *disk.Disk, o api.Options, a api.Archive) (*store.Store, error) {
	s, err := store.Open(d, o)
	if err == nil {
		err = s.Replace(o.V, a.Top, a.Recs...)
	}
	if err != nil {
		return nil, err
	}
	return s, nil
}

// inFault is an error of the store as Restore tells it.
func inFault(t *testing.T, err error) string {
	t.Helper()
	if err == nil {
		return ""
	}
	return "restore " + beneath(t, err)
}

// Promises 17.4, 17.6: on disks with all kinds of files, with room and without, Restore is an Open and a Replace, makes their changing calls and no other; or it is refused as one of the two would be on a disk with the same files, all synced, and changes nothing.
func TestRestoreTwins(t *testing.T) {
	r := rand.New(rand.NewSource(176))
	seen := map[string]int{}
	for seed := range int64(3000) {
		quota := pick(r, 20, 40, 70, 100, 150, 250, 400, 1000, 1<<16)
		a := drawArchive(r)
		o := api.Options{V: pick(r, 3, 3, 3, 2, 1), Limit: pick(r, 64, 100, 65536)}
		d, twin := littered(t, seed, quota), littered(t, seed, quota)
		was := sight(d)
		_, refusal := byHand(alike(t, d), o, a)
		s, err := archive.Restore(d, o, packed(a.Top, a.Recs...))
		if got, want := chain(t, err), inFault(t, refusal); got != want {
			t.Fatalf("seed %d: %q, not %q", seed, got, want)
		}
		if refusal != nil {
			if s != nil || sight(d) != was {
				t.Fatalf("seed %d: %v, and the disk is changed", seed, err)
			}
			_, other := byHand(twin, o, a)
			seen[fmt.Sprint(errors.Is(refusal, api.ErrFull), other == nil)]++
			continue
		}
		u, err := byHand(twin, o, a)
		if err != nil || view(d, s) != view(twin, u) {
			t.Fatalf("seed %d: %v; %+v, not %+v", seed, err, s.Stat(), u.Stat())
		}
		if n := s.Stat(); n.Pending != 0 || n.Top != a.Top || n.V != o.V || !sameRecs(listOf(t, s), lifted(t, o.V, a.Recs)) {
			t.Fatalf("seed %d: %+v", seed, n)
		}
		seen["done"]++
	}
	// Also disks on which the two calls would have found more room on their way, and which are refused all the same.
	if seen["done"] < 300 || seen["true false"] < 300 || seen["true true"] < 5 || seen["false false"] < 100 {
		t.Errorf("%v", seen)
	}
}

// Promise 17.6: the room that is needed, to the byte: that of the new store's first segment and manifest, and beside these that of the new segments and the new manifest.
func TestRestoreRoom(t *testing.T) {
	for _, c := range []struct {
		top  int
		recs []api.Record
		need int
	}{
		{0, nil, 20 + 5 + 15},
		{127, []api.Record{end(1, 1)}, 20 + 16 + 15},
		{128, []api.Record{end(1, 1)}, 20 + 16 + 16},
		{0, slices.Repeat([]api.Record{end(1, 1)}, 6), 20 + (5 + 55 + 24) + 16 + 18},
	} {
		b := packed(c.top, c.recs...)
		for quota := range c.need + 3 {
			d := newDisk(t, quota)
			s, err := archive.Restore(d, api.Options{V: 1, Limit: 64}, b)
			want := ""
			switch {
			case quota < 20:
				want = `restore store open "" -1 64`
			case quota < c.need:
				want = `restore store replace "" -1 64`
			}
			if got := chain(t, err); got != want || (s == nil) != (want != "") {
				t.Fatalf("%d records, quota %d: %q, not %q", len(c.recs), quota, got, want)
			}
			if want != "" && (len(d.Files()) != 0 || d.Free() != quota) {
				t.Fatalf("quota %d: %v is left", quota, d.Files())
			}
		}
	}
}

// Promise 17.6: files that have lost their names hold room till the directory is synced; that the store's making would sync it does not count.
func TestRestoreNamelessFiles(t *testing.T) {
	d := newDisk(t, 85, file("gone", 50), file("s1", 10))
	d.Remove("gone")
	was := sight(d)
	_, err := archive.Restore(d, usual, packed(0))
	if chain(t, err) != `restore store replace "" -1 64` || sight(d) != was {
		t.Errorf("%v", err)
	}
	if _, err := byHand(d, usual, api.Archive{}); err != nil {
		t.Errorf("by hand: %v", err)
	}
}

// Promise 17.6: an archive that no disk has room for.
func TestRestoreGreat(t *testing.T) {
	a := filled(t, maxArchive)
	d := newDisk(t, 1<<22)
	if _, err := archive.Restore(d, usual, pack(t, a)); chain(t, err) != `restore store replace "" -1 64` || len(d.Files()) != 0 {
		t.Errorf("%v", err)
	}
	a.Recs = a.Recs[:len(a.Recs)/2-10]
	s, err := archive.Restore(d, usual, pack(t, a))
	if err != nil || s.Stat().Records != len(a.Recs) {
		t.Fatalf("%v", err)
	}
	b, err := archive.Backup(s)
	if err != nil || !slices.Equal(b, pack(t, a)) {
		t.Errorf("%d bytes, %v", len(b), err)
	}
}

// Promises 17.6, 17.7, W2: the disk goes down ahead of each changing call: the error is that of the call in which it does, and behind the crash there is no manifest, and Restore can be begun anew, or a store that holds no record, or all of them.
func TestRestoreCrashes(t *testing.T) {
	r := rand.New(rand.NewSource(177))
	seen := map[string]int{}
	for seed := range int64(60) {
		a := drawArchive(r)
		a.Recs = append(a.Recs, drawRec(r, 3))
		o := api.Options{V: 3, Limit: pick(r, 64, 100)}
		clean := func() *disk.Disk {
			d := littered(t, seed, 1<<12)
			// A manifest that stood there once could come back: these disks never had one.
			d.SyncDir()
			return d
		}
		b := packed(a.Top, a.Recs...)
		for n := 0; ; n++ {
			d, twin := clean(), clean()
			d.Arm(n)
			twin.Arm(n)
			s, err := archive.Restore(d, o, b)
			_, want := byHand(twin, o, a)
			if chain(t, err) != inFault(t, want) || sight(d) != sight(twin) {
				t.Fatalf("seed %d, down at %d: %v, not %v", seed, n, err, want)
			}
			if err != nil && (s != nil || !errors.Is(err, api.ErrDown) || !d.Down()) {
				t.Fatalf("seed %d, down at %d: %v", seed, n, err)
			}
			for range 8 {
				var cuts []api.Cut
				for range r.Intn(12) {
					cuts = append(cuts, api.Cut{Keep: r.Intn(80) - 5, Zero: r.Intn(30) - 5})
				}
				seen[behind(t, d.Crash(r.Intn(14)-1, cuts...), o, a)]++
			}
			if err == nil {
				seen["done"]++
				break
			}
			var f *store.Fault
			errors.As(err, &f)
			seen[f.Op]++
		}
	}
	for _, k := range []string{"no manifest", "no record", "all", "done", "open", "replace"} {
		if seen[k] < 50 {
			t.Errorf("%v", seen)
		}
	}
}

// behind is what a crash within Restore left, once it was held against what it may leave.
func behind(t *testing.T, left []api.File, o api.Options, a api.Archive) string {
	t.Helper()
	d := newDisk(t, 1<<12, left...)
	if !slices.Contains(d.List(), "MANIFEST") {
		s, err := archive.Restore(d, o, packed(a.Top, a.Recs...))
		if err != nil || s.Stat().Top != a.Top || !sameRecs(listOf(t, s), lifted(t, 3, a.Recs)) {
			t.Fatalf("begun anew: %v", err)
		}
		return "no manifest"
	}
	if _, err := archive.Restore(d, o, packed(a.Top, a.Recs...)); chain(t, err) != "restore 173" {
		t.Fatalf("there is a manifest: %v", err)
	}
	s, err := store.Open(d, o)
	must(t, err)
	recs, top := listOf(t, s), s.Stat().Top
	switch {
	case len(recs) == 0 && top == 0:
		return "no record"
	case sameRecs(recs, lifted(t, 3, a.Recs)) && top == a.Top:
		return "all"
	}
	t.Fatalf("%+v, Top %d", recs, top)
	return ""
}

// Promise 17.7: what was restored is what was backed up, in any version that is not below that of any record.
func TestBackupAndRestore(t *testing.T) {
	r := rand.New(rand.NewSource(1707))
	seen := map[int]int{}
	for seed := range int64(300) {
		_, s := drawn(t, seed, 1<<16)
		recs := listOf(t, s)
		least := 1
		for _, x := range recs {
			least = max(least, x.V)
		}
		b, err := archive.Backup(s)
		must(t, err)
		for v := 1; v <= 3; v++ {
			d := newDisk(t, 1<<17)
			o := api.Options{V: v, Limit: pick(r, 64, 300, 65536)}
			u, err := archive.Restore(d, o, b)
			if v < least {
				at := slices.IndexFunc(recs, func(x api.Record) bool { return x.V > v })
				if chain(t, err) != fmt.Sprintf(`restore store replace "" %d 90`, at) || len(d.Files()) != 0 {
					t.Fatalf("seed %d, version %d: %v", seed, v, err)
				}
				continue
			}
			must(t, err)
			if !sameRecs(lifted(t, 3, listOf(t, u)), lifted(t, 3, recs)) || u.Stat().Top != s.Stat().Top || u.Stat().V != v || u.Stat().Pending != 0 {
				t.Fatalf("seed %d, version %d: %+v", seed, v, u.Stat())
			}
			// It is a store like any other, and lasts.
			must(t, u.Append(end(1, 5)))
			must(t, u.Sync())
			w, err := store.Open(newDisk(t, 1<<17, d.Crash(0)...), o)
			must(t, err)
			if l := listOf(t, w); len(l) != len(recs)+1 || !record.Same(l[len(l)-1], end(v, 5)) || w.Stat().Top != s.Stat().Top {
				t.Fatalf("seed %d, version %d, opened again: %+v", seed, v, w.Stat())
			}
			seen[v]++
		}
	}
	if seen[1] < 20 || seen[2] < 50 || seen[3] < 300 {
		t.Errorf("%v", seen)
	}
}

// Promises 17.5 to 17.9: a store goes over in pieces.
func TestInPieces(t *testing.T) {
	_, s := drawn(t, 5, 1<<16)
	must(t, s.Replace(3, 77, slices.Repeat([]api.Record{{V: 3, Kind: api.KDone, Saga: 5, Data: []byte(strings.Repeat("data", 99))}}, 40)...))
	b, err := archive.Backup(s)
	must(t, err)
	l := pieces(t, b, 1000)
	slices.Reverse(l)
	whole, e := archive.Join(append(l, l[3])...)
	if e != api.OK {
		t.Fatal(e)
	}
	u, err := archive.Restore(newDisk(t, 1<<17), usual, whole)
	must(t, err)
	if !sameRecs(listOf(t, u), listOf(t, s)) || u.Stat().Top != 77 {
		t.Errorf("%+v", u.Stat())
	}
}
