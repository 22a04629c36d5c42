package disk_test

import (
	"bytes"
	"fmt"
	"math"
	"math/rand"
	"strings"
	"testing"

	"annals/api"
	"annals/disk"
)

// Promise 6.13: of the bytes that are not synced a crash leaves the first Keep, and Zero zeros behind them, each taken into its bounds.
func TestCuts(t *testing.T) {
	d := loaded(t, 20, file("a", "12"))
	done(t, d.Append("a", []byte("345")))
	rows := []struct {
		keep, zero int
		want       string
	}{
		{0, 0, "12"}, {1, 0, "123"}, {2, 0, "1234"}, {3, 0, "12345"}, {4, 0, "12345"},
		{0, 1, "12\x00"}, {0, 2, "12\x00\x00"}, {0, 3, "12\x00\x00\x00"}, {0, 4, "12\x00\x00\x00"},
		{1, 1, "123\x00"}, {1, 2, "123\x00\x00"}, {1, 3, "123\x00\x00"}, {2, 1, "1234\x00"}, {2, 9, "1234\x00"}, {3, 1, "12345"}, {3, 9, "12345"},
		{-1, 0, "12"}, {-1, -1, "12"}, {0, -1, "12"}, {1, -5, "123"}, {-5, 2, "12\x00\x00"},
		{math.MaxInt, math.MaxInt, "12345"}, {math.MinInt, math.MinInt, "12"}, {math.MinInt, math.MaxInt, "12\x00\x00\x00"}, {math.MaxInt, math.MinInt, "12345"}, {2, math.MaxInt, "1234\x00"},
	}
	for _, c := range rows {
		got := d.Crash(0, cut(c.keep, c.zero))
		if len(got) != 1 || got[0].Name != "a" || string(got[0].Data) != c.want {
			t.Errorf("{%d, %d}: %s, want %q", c.keep, c.zero, tell(got), c.want)
		}
	}
	is(t, "without a cut", tell(d.Crash(0)), `a="12"`)
	is(t, "it changes nothing", tell(d.Files()), `a="12345"`)
}

// Promise 6.13: the k-th cut is that of the k-th name left, by rising name; where there is none, nothing that is not synced is left; others are not looked at.
func TestWhichCut(t *testing.T) {
	d := empty(t, 50)
	for _, name := range []string{"c", "a", "b"} {
		done(t, d.Create(name))
		done(t, d.Append(name, []byte(name+name)))
	}
	is(t, "Crash(3)", tell(d.Crash(3, cut(0, 1), cut(1, 0), cut(2, 0))), `a="\x00" b="b" c="cc"`)
	is(t, "Crash(2)", tell(d.Crash(2, cut(0, 1), cut(1, 0), cut(2, 0))), `a="\x00" c="c"`)
	is(t, "Crash(1)", tell(d.Crash(1, cut(1, 1), cut(9, 9))), `c="c\x00"`)
	is(t, "Crash(0)", tell(d.Crash(0, cut(1, 1), cut(9, 9))), ``)
	is(t, "fewer cuts", tell(d.Crash(3, cut(2, 0))), `a="aa" b="" c=""`)
	is(t, "no cut", tell(d.Crash(3)), `a="" b="" c=""`)
	is(t, "more cuts", tell(d.Crash(3, cut(1, 0), cut(0, 0), cut(1, 0), cut(9, 9), cut(9, 9))), `a="a" b="" c="c"`)
}

// Promise 6.13: the names left are the lasting ones with the first keep of the changes done, whatever kind of change each is.
func TestKeep(t *testing.T) {
	d := loaded(t, 50, file("a", "aa"), file("b", "bb"), file("c", "cc"))
	done(t, d.Rename("a", "z"))
	done(t, d.Remove("b"))
	done(t, d.Create("b"))
	done(t, d.Rename("z", "z"))
	done(t, d.Rename("c", "a"))
	done(t, d.Rename("a", "b"))
	done(t, d.Create("a"))
	want := []string{
		`a="aa" b="bb" c="cc"`,
		`b="bb" c="cc" z="aa"`,
		`c="cc" z="aa"`,
		`b="" c="cc" z="aa"`,
		`b="" c="cc" z="aa"`,
		`a="cc" b="" z="aa"`,
		`b="cc" z="aa"`,
		`a="" b="cc" z="aa"`,
	}
	for keep, w := range want {
		is(t, fmt.Sprintf("Crash(%d)", keep), tell(d.Crash(keep)), w)
	}
	for _, keep := range []int{-1, -9, math.MinInt} {
		is(t, fmt.Sprintf("Crash(%d)", keep), tell(d.Crash(keep)), want[0])
	}
	for _, keep := range []int{8, 99, math.MaxInt} {
		is(t, fmt.Sprintf("Crash(%d)", keep), tell(d.Crash(keep)), want[7])
	}
	is(t, "refused calls are no changes", fmt.Sprint(d.Create("a"), d.Remove("none"), d.Rename("none", "a")), fmt.Sprint(api.ErrExists, api.ErrMissing, api.ErrMissing))
	is(t, "Crash(7)", tell(d.Crash(7)), want[7])
	is(t, "Files", tell(d.Files()), want[7])
}

// Promise 6.13: a file's bytes are those that it has now, whatever name changes are left out.
func TestBytesOfNow(t *testing.T) {
	d := loaded(t, 50, file("a", "1234"))
	done(t, d.Rename("a", "b"))
	done(t, d.Append("b", []byte("56")))
	is(t, "Crash(0, {1, 0})", tell(d.Crash(0, cut(1, 0))), `a="12345"`)
	done(t, d.Sync("b"))
	is(t, "Crash(0)", tell(d.Crash(0)), `a="123456"`)
	done(t, d.Truncate("b", 3))
	is(t, "Crash(0)", tell(d.Crash(0)), `a="123"`)
	done(t, d.Append("b", []byte("x")))
	done(t, d.Remove("b"))
	is(t, "Crash(0)", tell(d.Crash(0, cut(9, 9))), `a="123x"`)
	is(t, "Crash(1)", tell(d.Crash(1, cut(9, 9))), `b="123x"`)
	is(t, "Crash(2)", tell(d.Crash(2, cut(9, 9))), ``)
}

// anyCuts draws a crash: how many changes are kept, and the cuts, also some that are out of all bounds.
func anyCuts(r *rand.Rand) (int, []api.Cut) {
	some := func() int {
		switch r.Intn(12) {
		case 0:
			return math.MaxInt - r.Intn(2)
		case 1:
			return math.MinInt + r.Intn(2)
		}
		return r.Intn(9) - 2
	}
	var cuts []api.Cut
	for range r.Intn(6) {
		cuts = append(cuts, cut(some(), some()))
	}
	return some(), cuts
}

// Promise 6.15: what was synced under a name that lasts outlives every crash.
func TestSyncedLasts(t *testing.T) {
	for seed := range 150 {
		r := rand.New(rand.NewSource(int64(seed)))
		d := empty(t, 60)
		synced, sure := map[string]string{}, map[string]string{}
		gone := func(names ...string) {
			for _, name := range names {
				delete(synced, name)
				delete(sure, name)
			}
		}
		for range 80 {
			a, b := string(rune('a'+r.Intn(4))), string(rune('a'+r.Intn(4)))
			switch r.Intn(9) {
			case 0, 1:
				d.Create(a)
			case 2, 3:
				d.Append(a, []byte("0123456789")[:r.Intn(8)])
			case 4:
				if d.Sync(a) == api.OK {
					data, _ := d.Read(a)
					synced[a] = string(data)
				}
			case 5:
				if d.Truncate(a, r.Intn(9)) == api.OK {
					gone(a)
				}
			case 6:
				if d.Rename(a, b) == api.OK {
					gone(a, b)
				}
			case 7:
				if d.Remove(a) == api.OK {
					gone(a)
				}
			case 8:
				done(t, d.SyncDir())
				for name, data := range synced {
					sure[name] = data
				}
			}
			keep, cuts := anyCuts(r)
			left := map[string]string{}
			for _, f := range d.Crash(keep, cuts...) {
				left[f.Name] = string(f.Data)
			}
			for name, data := range sure {
				if got, ok := left[name]; !ok || !strings.HasPrefix(got, data) {
					t.Fatalf("seed %d: %s had %q for sure, and a crash leaves %q, %v", seed, name, data, got, ok)
				}
			}
		}
	}
}

// Promises 6.16 and 6.17: what a crash leaves is a disk of the same quota, of which every crash leaves the same; and the most that a crash can leave is all.
func TestWhatIsLeft(t *testing.T) {
	for seed := range 200 {
		r := rand.New(rand.NewSource(int64(seed)))
		quota := r.Intn(40)
		d := empty(t, quota)
		for range 60 {
			play(d, draw(r))
			keep, cuts := anyCuts(r)
			files := d.Crash(keep, cuts...)
			back, e := disk.Load(quota, files)
			if e != api.OK {
				t.Fatalf("seed %d: what a crash leaves is refused: %s, %d", seed, tell(files), e)
			}
			keep, cuts = anyCuts(r)
			if got := back.Crash(keep, cuts...); tell(got) != tell(files) || tell(back.Files()) != tell(files) {
				t.Fatalf("seed %d: a crash left %s, and of that another leaves %s", seed, tell(files), tell(got))
			}
			most := cut(math.MaxInt, r.Intn(3)-1)
			if got := d.Crash(math.MaxInt, most, most, most, most, most); tell(got) != tell(d.Files()) {
				t.Fatalf("seed %d: a crash that keeps all leaves %s of %s", seed, tell(got), tell(d.Files()))
			}
		}
	}
}

// Promise 6.16: a full disk whose files have lost their names comes back too, whichever of them a crash leaves.
func TestFullDiskComesBack(t *testing.T) {
	d := loaded(t, 9, file("a", "123"), file("b", "456"))
	done(t, d.Create("c"))
	done(t, d.Append("c", []byte("789")))
	done(t, d.Rename("c", "a"))
	done(t, d.Remove("b"))
	for keep := range 4 {
		files := d.Crash(keep, cut(9, 9), cut(9, 9), cut(9, 9))
		if back, e := disk.Load(9, files); e != api.OK || tell(back.Crash(0)) != tell(files) {
			t.Errorf("Crash(%d) leaves %s: %d", keep, tell(files), e)
		}
	}
	is(t, "all of it", tell(d.Crash(1, cut(9, 9), cut(9, 9), cut(9, 9))), `a="123" b="456" c="789"`)
}

// Promise 6.13: a disk at its greatest, cut in its midst.
func TestGreatCrash(t *testing.T) {
	d := empty(t, api.MaxQuota)
	done(t, d.Create("a"))
	data := bytes.Repeat([]byte{7}, api.MaxQuota)
	done(t, d.Append("a", data))
	is(t, "Free", d.Free(), 0)
	got := d.Crash(1, cut(api.MaxQuota/2, api.MaxQuota))
	if len(got) != 1 || len(got[0].Data) != api.MaxQuota || !bytes.Equal(got[0].Data[:api.MaxQuota/2], data[:api.MaxQuota/2]) || bytes.ContainsRune(got[0].Data[api.MaxQuota/2:], 7) {
		t.Error("half of the bytes and zeros behind them are not left")
	}
}
