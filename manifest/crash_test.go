package manifest_test

import (
	"bytes"
	"fmt"
	"math/rand"
	"slices"
	"testing"

	"annals/api"
	"annals/disk"
	"annals/manifest"
)

const quota = 400

// crashes goes through what a crash may leave: each number of kept name changes, with cuts that are the same for all files, and drawn ones.
func crashes(r *rand.Rand, d *disk.Disk, most int, each func(left []api.File)) {
	for keep := -1; keep <= most; keep++ {
		for _, k := range []int{0, 1, 2, 7, 14, 15, 17, 99} {
			for _, z := range []int{0, 1, 5, 99} {
				each(d.Crash(keep, slices.Repeat([]api.Cut{{Keep: k, Zero: z}}, 12)...))
			}
		}
		for range 10 {
			var cuts []api.Cut
			for range r.Intn(12) {
				cuts = append(cuts, api.Cut{Keep: r.Intn(24) - 2, Zero: r.Intn(24) - 2})
			}
			each(d.Crash(keep, cuts...))
		}
	}
}

// around is a disk that holds an old manifest that lasts, and what else a drawn number of calls on other names makes of it, synced or not. It tells which names were touched since the last SyncDir.
func around(t *testing.T, seed int64, old api.Manifest) (*disk.Disk, []string) {
	t.Helper()
	r := rand.New(rand.NewSource(seed))
	b, _ := manifest.Encode(old)
	files := []api.File{file("MANIFEST", string(b))}
	for _, name := range names[2:] {
		if r.Intn(2) == 0 {
			files = append(files, file(name, "of "+name))
		}
	}
	d := loaded(t, quota, files...)
	var touched []string
	others := names[1:]
	for range r.Intn(9) {
		name, to := pick(r, others...), pick(r, others...)
		touched = append(touched, name)
		switch r.Intn(8) {
		case 0, 1:
			d.Create(name)
		case 2:
			d.Append(name, bytes.Repeat([]byte{byte('a' + r.Intn(9))}, r.Intn(30)))
		case 3:
			d.Sync(name)
		case 4:
			d.Truncate(name, r.Intn(3))
		case 5, 6:
			d.Rename(name, to)
			touched = append(touched, to)
		case 7:
			d.Remove(name)
		}
	}
	return d, touched
}

// Promise 8.10: whatever a crash within Swap leaves, Load reads the old manifest or the new one from it: the old one up to the fourth call, the new one if Swap answered OK.
func TestSwapIsOneStroke(t *testing.T) {
	r := rand.New(rand.NewSource(810))
	seen := map[string]int{}
	for seed := range int64(40) {
		old, m := pick(r, manifests()...), pick(r, manifests()...)
		old.Gen, m.Gen = 100, 101
		for n := -1; n < 7; n++ {
			d, _ := around(t, seed, old)
			d.Arm(n)
			e := manifest.Swap(d, m)
			if want := n >= 0 && n < 5; (e == api.ErrDown) != want || (e == api.OK) == want || d.Down() != want {
				t.Fatalf("seed %d, Arm(%d): %d", seed, n, e)
			}
			crashes(r, d, 12, func(left []api.File) {
				behind := loaded(t, quota, left...)
				got, e2 := manifest.Load(behind)
				isOld, isNew := same(got, old), same(got, m)
				if e2 != api.OK || !isOld && !isNew || n >= 0 && n <= 3 && !isOld || e == api.OK && !isNew {
					t.Fatalf("seed %d, Arm(%d), Swap %d: behind a crash Load is %+v, %d of %s", seed, n, e, got, e2, tell(left))
				}
				seen[fmt.Sprint(n, isNew)]++
			})
		}
	}
	if seen["4 true"] == 0 || seen["4 false"] == 0 {
		t.Errorf("at the last call both may come: %v", seen)
	}
}

// Promise 8.10: Swaps one behind the other, each cut off somewhere and the disk loaded again from what is left; what an earlier one left behind does no harm.
func TestManySwaps(t *testing.T) {
	r := rand.New(rand.NewSource(811))
	for range 300 {
		now := drawGood(r)
		if len(now.Segs) > 3 {
			now.Segs = now.Segs[len(now.Segs)-3:]
		}
		now.Gen = 1
		d := newDisk(t, 300)
		if e := manifest.Swap(d, now); e != api.OK {
			t.Fatalf("the first: %d", e)
		}
		for gen := 2; gen < 12; gen++ {
			next := now
			next.Gen, next.Top = gen, r.Intn(1000)
			n := r.Intn(7) - 1
			d.Arm(n)
			e := manifest.Swap(d, next)
			left := d.Crash(r.Intn(4), api.Cut{Keep: r.Intn(40), Zero: r.Intn(9)}, api.Cut{Keep: r.Intn(40), Zero: r.Intn(9)})
			d = loaded(t, 300, left...)
			got, e2 := manifest.Load(d)
			if e2 != api.OK || !same(got, now) && !same(got, next) || e == api.OK && !same(got, next) || n >= 0 && n < 4 && !same(got, now) {
				t.Fatalf("generation %d, Arm(%d), Swap %d: %+v, %d", gen, n, e, got, e2)
			}
			now = got
		}
	}
}

// counts tells whether a name is one that Sweep leaves alone.
func counts(name string, m api.Manifest) bool {
	if name == "MANIFEST" || name == "x" || name == "s01" {
		return true
	}
	return slices.ContainsFunc(m.Segs, func(s api.Seg) bool { return name == fmt.Sprint("s", s.Num) })
}

// pickFiles is those files that are asked for.
func pickFiles(files []api.File, want func(name string) bool) []api.File {
	return slices.DeleteFunc(slices.Clone(files), func(f api.File) bool { return !want(f.Name) })
}

// Promise 8.11: behind a Sweep, and in whatever a crash within it leaves, the files that count are as they were; a second one finds nothing and does nothing.
func TestSweepLeavesWhatCounts(t *testing.T) {
	r := rand.New(rand.NewSource(812))
	cut, whole, safe := 0, 0, 0
	for seed := range int64(50) {
		m := pick(r, manifests()...)
		for n := -1; n < 7; n++ {
			d, touched := around(t, seed, one())
			before := d.Files()
			mine := func(name string) bool { return counts(name, m) }
			lasts := func(name string) bool { return counts(name, m) && !slices.Contains(touched, name) }
			d.Arm(n)
			l, e := manifest.Sweep(d, m)
			if tell(pickFiles(d.Files(), mine)) != tell(pickFiles(before, mine)) {
				t.Fatalf("seed %d, Arm(%d): of %s it leaves %s", seed, n, tell(before), tell(d.Files()))
			}
			want := tell(pickFiles(before, lasts))
			safe += len(pickFiles(before, lasts))
			crashes(r, d, 12, func(left []api.File) {
				if got := tell(pickFiles(left, lasts)); got != want {
					t.Fatalf("seed %d, Arm(%d), Sweep %d: behind a crash there is %s, want %s", seed, n, e, got, want)
				}
			})
			if e != api.OK {
				cut++
				continue
			}
			whole++
			if got := tell(d.Files()); got != tell(pickFiles(before, mine)) {
				t.Fatalf("seed %d: it swept %q and leaves %s", seed, l, got)
			}
			was := sight(d)
			d.Arm(0)
			if l, e := manifest.Sweep(d, m); e != api.OK || len(l) != 0 || sight(d) != was {
				t.Fatalf("seed %d: a second Sweep finds %q, %d", seed, l, e)
			}
		}
	}
	if cut < 50 || whole < 50 || safe < 500 {
		t.Errorf("%d cut off, %d whole, %d files safe", cut, whole, safe)
	}
}

// Promise 8.11: a Sweep that was cut off, done again behind the crash, comes to its end, and the manifest is there all the while.
func TestSweepAgain(t *testing.T) {
	m := two()
	for n := range 6 {
		for keep := range 6 {
			d := loaded(t, quota, file("MANIFEST", string(twoBytes)), file("MANIFEST.tmp", "t"), file("s1", "1"), file("s2", "2"), file("s3", "3"), file("s4", "4"), file("y", "y"))
			d.Arm(n)
			_, e := manifest.Sweep(d, m)
			if (e == api.OK) != (n >= 4) || e != api.OK && e != api.ErrDown {
				t.Fatalf("Arm(%d): %d", n, e)
			}
			behind := loaded(t, quota, d.Crash(keep)...)
			l, e := manifest.Sweep(behind, m)
			if left := max(3-min(n, keep), 0); e != api.OK || n < 4 && len(l) != left || n >= 4 && len(l) != 0 {
				t.Errorf("Arm(%d), Crash(%d): %q, %d", n, keep, l, e)
			}
			if got, e := manifest.Load(behind); e != api.OK || !same(got, m) {
				t.Errorf("Arm(%d), Crash(%d): %+v, %d", n, keep, got, e)
			}
			if got := behind.List(); !slices.Equal(got, []string{"MANIFEST", "s1", "s2", "y"}) {
				t.Errorf("Arm(%d), Crash(%d): %q", n, keep, got)
			}
		}
	}
}
