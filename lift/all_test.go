package lift_test

import (
	"testing"

	"annals/api"
	"annals/lift"
)

// some is one record of each version and kind that goes down to 1, those of version 1 first.
func some() []api.Record {
	var out []api.Record
	for v := 1; v <= 3; v++ {
		for kind := api.KBegin; kind <= api.KEnd; kind++ {
			r := api.Record{V: 1, Kind: kind, Saga: 10*v + kind}
			switch kind {
			case api.KBegin:
				r.Step, r.Data = 3, []byte("buy")
			case api.KDone, api.KFail, api.KUndone:
				r.Step, r.Data = 2, []byte("data")
			}
			out = append(out, lifted(r, v))
		}
	}
	return out
}

// Promise 4.3: all are lifted, in their order.
func TestUpAll(t *testing.T) {
	for to := 1; to <= 3; to++ {
		recs := some()[:7*to]
		for n := range len(recs) + 1 {
			got, at, e := lift.UpAll(to, recs[:n]...)
			if len(got) != n || at != 0 || e != api.OK {
				t.Fatalf("UpAll(%d, %d records): %d, %d, %d", to, n, len(got), at, e)
			}
			for i, r := range got {
				if !equal(r, lifted(recs[i], to)) {
					t.Fatalf("UpAll(%d, ..) makes %+v of %+v", to, r, recs[i])
				}
			}
		}
	}
	r := api.Record{V: 1, Kind: api.KEnd, Saga: 7}
	got, at, e := lift.UpAll(2, r, r, r)
	if len(got) != 3 || at != 0 || e != api.OK {
		t.Errorf("one record three times: %d, %d, %d", len(got), at, e)
	}
}

// Promise 4.3: the first that Up refuses is told, with its place and its error, whatever comes behind it.
func TestUpAllStops(t *testing.T) {
	bad := []api.Record{{}, {V: 2, Kind: 9}, {V: 3, Kind: api.KEnd}, {V: 3, Kind: api.KEnd, Saga: 7}, {V: 1, Kind: api.KEnd, Saga: 7, At: 1}}
	errs := []api.Errno{api.ErrVersion, api.ErrKind, api.ErrID, api.ErrWay, api.ErrExtra}
	for i, first := range bad {
		for _, second := range bad {
			for n := range 7 {
				recs := append(some()[:n:n], first)
				recs = append(recs, some()[:2]...)
				recs = append(recs, second)
				got, at, e := lift.UpAll(2, recs...)
				if len(got) != 0 || at != n || e != errs[i] {
					t.Errorf("UpAll with %+v at %d: %d records, %d, %d", first, n, len(got), at, e)
				}
			}
		}
	}
}

// Promise 4.3: a version that is none comes ahead of all records; no record is no list.
func TestUpAllVersion(t *testing.T) {
	for _, to := range oddVersions {
		for _, recs := range [][]api.Record{nil, {}, some(), {{}}, {{V: 2, Kind: 9}}, append(some(), api.Record{})} {
			got, at, e := lift.UpAll(to, recs...)
			if len(got) != 0 || at != 0 || e != api.ErrVersion {
				t.Errorf("UpAll(%d, %d records): %d, %d, %d", to, len(recs), len(got), at, e)
			}
		}
	}
	for to := 1; to <= 3; to++ {
		got, at, e := lift.UpAll(to)
		got2, at2, e2 := lift.UpAll(to, []api.Record{}...)
		if len(got) != 0 || at != 0 || e != api.OK || len(got2) != 0 || at2 != 0 || e2 != api.OK {
			t.Errorf("UpAll(%d) of no record: %d, %d, %d", to, len(got), at, e)
		}
	}
}
