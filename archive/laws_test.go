package archive_test

import (
	"math/rand"
	"slices"
	"testing"

	"annals/api"
	"annals/archive"
)

// agrees holds Read against the second reading, and what it reads against Pack.
func agrees(t *testing.T, b []byte) api.Errno {
	t.Helper()
	a, e, at := archive.Read(b)
	want, we, wat := readTwin(b)
	if e != we || at != wat || !sameArchive(a, want) {
		t.Fatalf("Read(% x): %+v, %d, %d, not %+v, %d, %d", b, a, e, at, want, we, wat)
	}
	if e == api.OK && !slices.Equal(pack(t, a), b) {
		t.Fatalf("Pack(%+v): % x, not % x", a, pack(t, a), b)
	}
	return e
}

// Promises 17.1, 17.3, W5: what is packed is what the chapter says, and is read as it was; no beginning of it is read, nor any of it with bytes behind.
func TestRoundTrip(t *testing.T) {
	r := rand.New(rand.NewSource(173))
	for range 400 {
		a := drawArchive(r)
		b := pack(t, a)
		if !slices.Equal(b, packed(a.Top, a.Recs...)) {
			t.Fatalf("Pack(%+v): % x", a, b)
		}
		if back, e, at := archive.Read(b); e != api.OK || at != 0 || !sameArchive(back, a) {
			t.Fatalf("%+v: %+v, %d, %d", a, back, e, at)
		}
		for n := range b {
			if agrees(t, b[:n]) == api.OK {
				t.Fatalf("%d bytes of %d are read", n, len(b))
			}
		}
		if agrees(t, append(b, byte(r.Intn(256)))) != api.ErrEnding {
			t.Fatal("bytes behind the last one are read")
		}
	}
}

// Promise 17.2: each bit of an archive counts.
func TestEachBit(t *testing.T) {
	r := rand.New(rand.NewSource(172))
	for range 30 {
		b := pack(t, drawArchive(r))
		for i := range 8 * len(b) {
			b[i/8] ^= 1 << (i % 8)
			if agrees(t, b) == api.OK {
				t.Fatalf("with bit %d turned over it is read", i)
			}
			b[i/8] ^= 1 << (i % 8)
		}
	}
}

// drawFrames is an archive's frames that were made one by one, right or wrong.
func drawFrames(r *rand.Rand) []byte {
	n := r.Intn(4)
	parts := [][]byte{first(pick[uint64](r, 0, 9, 9, 1<<63-1, 1<<63, 1<<64-1), pick(r, uint64(n), uint64(n), uint64(n), uint64(n), uint64(n+1), uint64(max(n-1, 0))))}
	for range n {
		parts = append(parts, pick(r, middle(drawRec(r, 3)), middle(drawRec(r, 3)), middle(drawRec(r, 3)), framed(append([]byte{'R', byte(r.Intn(5))}, drawBytes(r, r.Intn(6))...)...), framed(pick(r, []byte("R"), []byte("E"), []byte("T"), []byte("Q"))...)))
	}
	b := ended(parts...)
	switch r.Intn(8) {
	case 0:
		b = slices.Concat(slices.Concat(parts...), framed(append([]byte("E"), drawBytes(r, 4)...)...))
	case 1:
		b = slices.Concat(b, drawBytes(r, 1+r.Intn(3)))
	case 2:
		b = ended(b)
	}
	return b
}

// Promises 17.2, 17.3, W5: drawn frames that are right one by one and wrong together, held against the second reading; what is read, Pack writes.
func TestReadLaw(t *testing.T) {
	r := rand.New(rand.NewSource(1702))
	seen := map[api.Errno]int{}
	for range 30000 {
		seen[agrees(t, drawFrames(r))]++
	}
	for _, e := range []api.Errno{api.OK, api.ErrArchive, api.ErrCount, api.ErrEnding, api.ErrVersion, api.ErrKind, api.ErrTag} {
		if seen[e] < 50 {
			t.Errorf("%d came %d times: %v", int(e), seen[e], seen)
		}
	}
}

// Promise 17.2: drawn bytes, pieces of archives laid together, bytes changed and left out.
func TestReadAnything(t *testing.T) {
	r := rand.New(rand.NewSource(1703))
	for range 20000 {
		b, c := pack(t, drawArchive(r)), pack(t, drawArchive(r))
		switch r.Intn(4) {
		case 0:
			b = slices.Concat(b[:r.Intn(len(b))], c[r.Intn(len(c)):])
		case 1:
			b = append([]byte("ANAR\x01"), drawBytes(r, r.Intn(30))...)
		case 2:
			b[r.Intn(len(b))] = byte(r.Intn(256))
		case 3:
			i := r.Intn(len(b))
			b = slices.Delete(b, i, min(len(b), i+1+r.Intn(20)))
		}
		agrees(t, b)
	}
}

// The chapter's remark on the bytes: two records with as many bytes may change places, and the archive is read in that other order; two with unlike lengths may not.
func TestOrder(t *testing.T) {
	a, b, c := end(1, 1), end(2, 2), end(3, 300)
	ahead, whole := first(0, 3), packed(0, a, b, c)
	swapped := slices.Concat(ahead, middle(b, a, c), whole[len(whole)-11:])
	if got, e, _ := archive.Read(swapped); e != api.OK || !sameRecs(got.Recs, []api.Record{b, a, c}) {
		t.Errorf("%+v, %d", got, e)
	}
	if !slices.Equal(swapped, packed(0, b, a, c)) {
		t.Error("it is not what Pack writes")
	}
	torn := slices.Concat(ahead, middle(a, c, b), whole[len(whole)-11:])
	refusedAt(t, torn, api.ErrArchive, len(torn)-11)
}
