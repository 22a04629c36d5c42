package rewrite_test

import (
	"bytes"
	"errors"
	"math/rand"
	"slices"
	"sync"
	"testing"

	"annals/api"
	"annals/disk"
	"annals/rewrite"
	"annals/store"
)

// room is a list with all its spare room.
func room[T any](list []T) []T { return list[:cap(list)] }

// spare is a list with spare room behind it that is not zero.
func spare[T any](list []T, behind ...T) []T {
	whole := slices.Concat(list, behind)
	return whole[:len(list):len(whole)]
}

// scribble writes into records and their data, and behind their ends.
func scribble(recs []api.Record) {
	for i := range room(recs) {
		for k := range room(room(recs)[i].Data) {
			room(room(recs)[i].Data)[k] ^= 0x5a
		}
		room(recs)[i] = api.Record{V: -1, Kind: -1, Saga: -1}
	}
}

// rich is records of live and dead sagas whose data lie in one place, one over the other, with spare room behind all.
func rich() []api.Record {
	place := []byte("the data of all records")
	var out []api.Record
	for i := range 12 {
		kind := []int{api.KDone, api.KUndone, api.KFail, api.KDone, api.KEnd}[i%5]
		out = append(out, api.Record{V: 3, Kind: kind, Saga: 1 + i%3*7%11, Data: place[i%5 : 8+i%7]})
	}
	return spare(out, api.Record{V: 3, Kind: api.KEnd, Saga: 1, Data: place})
}

// Promise 12.8: whoever writes into an answer of Split, behind its end too, changes nothing else: not what was handed in, not the other list, not another answer.
func TestAnswersAreNew(t *testing.T) {
	recs := rich()
	recs[0].Kind, recs[3].Kind, recs[6].Kind, recs[9].Kind = api.KDone, api.KDone, api.KDone, api.KDone // saga 1 lives on
	sight := func() string { return tell(room(recs)) }
	was := sight()
	live, dead := rewrite.Split(recs...)
	live2, dead2 := rewrite.Split(recs...)
	if len(live) < 3 || len(dead) < 3 || sight() != was {
		t.Fatalf("%+v; %+v", live, dead)
	}
	want := tell(dead)
	scribble(live)
	if tell(dead) != want || tell(dead2) != want || sight() != was {
		t.Error("writing into the live records changes others")
	}
	want = tell(live2)
	scribble(dead)
	if live3, _ := rewrite.Split(recs...); tell(live2) != want || tell(live3) != want || sight() != was {
		t.Error("writing into the dead records changes others")
	}
	want = tell(dead2) + tell(live2)
	scribble(recs)
	if tell(dead2)+tell(live2) != want {
		t.Error("writing into what was handed in changes an answer")
	}
}

// Promise 12.8: no two records of Split's lists share their data.
func TestDataApart(t *testing.T) {
	recs := rich()
	datas := func() [][]byte {
		live, dead := rewrite.Split(recs...)
		var out [][]byte
		for _, r := range slices.Concat(live, dead) {
			out = append(out, r.Data)
		}
		return out
	}
	want := datas()
	for n := range want {
		got := datas()
		for k := range room(got[n]) {
			room(got[n])[k] ^= 0x5a
		}
		for k := range got {
			if k != n && !bytes.Equal(got[k], want[k]) {
				t.Errorf("writing into the data of record %d changes that of %d", n, k)
			}
		}
	}
}

// Promise 12.8: a fault that is written into is not met again.
func TestFaultsAreNew(t *testing.T) {
	for range 3 {
		refuses(t, nil, "error 1", func(err error) bool {
			var f *rewrite.Fault
			is := errors.As(err, &f)
			*f = rewrite.Fault{Why: "x", Err: api.ErrSum}
			return is
		})
	}
}

// meddle changes a disk behind a store's back.
func meddle(r *rand.Rand, d *disk.Disk) {
	name, to := "MANIFEST", "s3"
	if l := d.List(); len(l) > 0 {
		name, to = pick(r, l...), pick(r, append(l, "s2", "s3", "MANIFEST.tmp")...)
	}
	switch r.Intn(8) {
	case 0:
		d.Remove(name)
	case 1:
		d.Rename(name, to)
	case 2:
		d.Create(to)
	case 3:
		d.Append(name, []byte("rubbish"))
	case 4:
		b, _ := d.Read(name)
		d.Truncate(name, r.Intn(len(b)+1))
	case 5:
		d.Append(name, make([]byte, d.Free()))
	case 6:
		if u, err := store.Open(d, usual); err == nil {
			u.Append(end(9))
			u.Rotate()
		}
	case 7:
		d.Arm(r.Intn(30))
	}
}

// Promises 12.1, 12.8, and rule 3 of the whole: whoever else changes the disk meanwhile breaks the promises, but nothing panics, and what is answered is a fault of this layer or nothing.
func TestMeddling(t *testing.T) {
	r := rand.New(rand.NewSource(128))
	told := map[api.Errno]int{}
	for seed := range int64(1500) {
		d, s := drawn(t, seed, pick(r, 100, 300, 4000))
		for range 6 {
			meddle(r, d)
			for _, c := range calls {
				report, err := c.do(s)
				if f := fault(t, err); err != nil && (f.Why != c.why || report != (api.Report{})) {
					t.Fatalf("%s: %+v, %v", c.why, report, err)
				}
				var e api.Errno
				if errors.As(err, &e) {
					told[e]++
				}
			}
			if n, k, err := rewrite.Dead(s); fault(t, err).Why == "dead" && (n != 0 || k != 0) {
				t.Fatalf("dead: %d, %d, %v", n, k, err)
			}
		}
	}
	if told[api.ErrLost] == 0 || told[api.ErrCorrupt] == 0 || told[api.ErrDown] == 0 || told[api.ErrFull] == 0 {
		t.Errorf("%v", told)
	}
}

// Promise 12.8: calls side by side, each on a store of its own, answer as calls one behind the other.
func TestSideBySide(t *testing.T) {
	recs := rich()
	live, dead := split(recs)
	var group sync.WaitGroup
	for i := range 8 {
		_, s := drawn(t, int64(i), 1<<16)
		_, other := drawn(t, int64(i), 1<<16)
		want, err := compact.twin(other)
		must(t, err)
		group.Go(func() {
			if got, err := rewrite.Compact(s); err != nil || got != want {
				t.Errorf("store %d: %+v, %v, not %+v", i, got, err, want)
			}
			for range 20 {
				if a, b := rewrite.Split(recs...); !sameRecs(a, live) || !sameRecs(b, dead) {
					t.Errorf("worker %d: %+v; %+v", i, a, b)
				}
			}
		})
	}
	group.Wait()
}
