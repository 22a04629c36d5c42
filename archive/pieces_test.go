package archive_test

import (
	"hash/crc32"
	"math"
	"math/rand"
	"slices"
	"testing"

	"annals/api"
	"annals/archive"
)

// Promises 17.8, 17.9: the chapter's examples.
func TestPieceExamples(t *testing.T) {
	l := pieces(t, []byte("abcde"), 2)
	if len(l) != 3 || !slices.Equal(l[0], unhex("09 50 65 d8 87 85 00 03 61 62 7e 1e 45 ca a5")) {
		t.Fatalf("% x", l)
	}
	if n := pieces(t, nil, 5); len(n) != 1 || !slices.Equal(n[0], unhex("07 50 00 00 00 00 00 01 51 0f 35 3b a5")) {
		t.Errorf("% x", n)
	}
	notCut(t, []byte("abcde"), 0, api.ErrArg)
	joins(t, "abcde", l[2], l[0], l[2], l[1])
	notJoined(t, api.ErrGap, l[0], l[2])
	notJoined(t, api.ErrGap)
	notJoined(t, api.ErrPiece, l[0], []byte{0})
}

// notCut holds that Cut is refused with that error, and that nothing is given.
func notCut(t *testing.T, b []byte, size int, e api.Errno) {
	t.Helper()
	it, got := archive.Cut(b, size)
	if got != e || it == nil {
		t.Fatalf("%d bytes in pieces of %d: %d, not %d", len(b), size, got, e)
	}
	for p := range it {
		t.Fatalf("%d bytes in pieces of %d: % x", len(b), size, p)
	}
}

// joins holds that pieces make that whole.
func joins(t *testing.T, want string, list ...[]byte) {
	t.Helper()
	if b, e := archive.Join(list...); e != api.OK || string(b) != want {
		t.Fatalf("%d pieces: %d bytes, %d", len(list), len(b), e)
	}
}

// notJoined holds that pieces are refused with that error.
func notJoined(t *testing.T, e api.Errno, list ...[]byte) {
	t.Helper()
	if b, got := archive.Join(list...); got != e || b != nil {
		t.Fatalf("% x: % x, %d, not %d", list, b, got, e)
	}
}

// Promise 17.8: what is refused, and what comes first.
func TestCutRefusals(t *testing.T) {
	for _, size := range []int{math.MinInt, -65536, -1, 0, 65537, 1 << 20, math.MaxInt} {
		notCut(t, []byte("abcde"), size, api.ErrArg)
		notCut(t, nil, size, api.ErrArg)
		notCut(t, make([]byte, maxArchive), size, api.ErrArg)
		notCut(t, make([]byte, maxArchive+1), size, api.ErrLong)
	}
	notCut(t, make([]byte, maxArchive+1), 65536, api.ErrLong)
	for _, size := range []int{1, 2, 3, 7, 100, 8191} {
		notCut(t, make([]byte, 1024*size+1), size, api.ErrArg)
		if n := len(pieces(t, make([]byte, 1024*size), size)); n != 1024 {
			t.Errorf("%d pieces of %d", n, size)
		}
	}
	notCut(t, make([]byte, maxArchive), 8191, api.ErrArg)
}

// Promise 17.8: the pieces, of each length and size.
func TestCutForm(t *testing.T) {
	r := rand.New(rand.NewSource(178))
	for n := range 70 {
		b := drawBytes(r, n)
		for size := 1; size < 75; size++ {
			if got, want := pieces(t, b, size), cutTwin(b, size); !slices.EqualFunc(got, want, slices.Equal) {
				t.Fatalf("% x in pieces of %d: % x, not % x", b, size, got, want)
			}
		}
	}
	for _, c := range []struct{ n, size, want int }{{maxArchive, 8192, 1024}, {maxArchive - 1, 8192, 1024}, {maxArchive, 65536, 128}, {maxArchive - 65536, 65535, 128}, {65536, 65536, 1}, {65537, 65536, 2}, {65535, 65536, 1}} {
		b := drawBytes(r, c.n)
		got := pieces(t, b, c.size)
		if len(got) != c.want || !slices.EqualFunc(got, cutTwin(b, c.size), slices.Equal) {
			t.Errorf("%d bytes in pieces of %d: %d pieces", c.n, c.size, len(got))
		}
		joins(t, string(b), got...)
	}
}

// Promise 17.8: what Cut answers may be left early, ranged over again, and within its own loop, and always gives the same.
func TestCutAgain(t *testing.T) {
	b := []byte("some bytes to be cut")
	want := cutTwin(b, 3)
	it, e := archive.Cut(b, 3)
	if e != api.OK {
		t.Fatal(e)
	}
	for stop := range len(want) + 1 {
		var got [][]byte
		for p := range it {
			if len(got) == stop {
				break
			}
			got = append(got, p)
		}
		if !slices.EqualFunc(got, want[:stop], slices.Equal) {
			t.Errorf("left behind %d: % x", stop, got)
		}
	}
	k := 0
	for p := range it {
		if !slices.Equal(p, want[k]) {
			t.Errorf("piece %d: % x", k, p)
		}
		if inner := slices.Collect(it); !slices.EqualFunc(inner, want, slices.Equal) {
			t.Errorf("within the loop, at %d: % x", k, inner)
		}
		k++
	}
	if k != len(want) {
		t.Errorf("%d pieces", k)
	}
	none, _ := archive.Cut(b, 0)
	for range 2 {
		if l := slices.Collect(none); len(l) != 0 {
			t.Errorf("% x", l)
		}
	}
}

// Promise 17.9: what is no piece.
func TestNoPiece(t *testing.T) {
	l := pieces(t, []byte("abcde"), 2)
	var sum uint32 = crc32.ChecksumIEEE([]byte("abcde"))
	bad := [][]byte{
		nil, {}, {0}, []byte("P"), []byte("abcde"), make([]byte, 99),
		append(slices.Clone(l[0]), 0), append(slices.Clone(l[0]), l[0]...), l[0][:len(l[0])-1], l[0][1:], append([]byte{0}, l[0]...),
		framed([]byte("P")...), framed([]byte("P123")...), framed([]byte("P1234")...), framed([]byte("P1234\x00")...), framed([]byte("P1234\x00\x80")...), framed([]byte("P1234\x80")...),
		framed([]byte("p1234\x00\x01")...), framed([]byte("R1234\x00\x01")...), framed([]byte("1234\x00\x01ab")...),
		framed([]byte("P1234\x80\x00\x01")...), framed([]byte("P1234\x00\x81\x00")...),
		framed(slices.Concat([]byte("P1234"), unhex("ff ff ff ff ff ff ff ff ff 02 03"))...), framed(slices.Concat([]byte("P1234\x00"), unhex("ff ff ff ff ff ff ff ff ff 02"))...),
		pieceOf(sum, 0, 0), pieceOf(sum, 0, 1025), pieceOf(sum, 1, 1), pieceOf(sum, 3, 3, 'a'), pieceOf(sum, 4, 3, 'a'), pieceOf(sum, 1024, 1024), pieceOf(sum, 1024, 1025),
		pieceOf(sum, 0, 1<<32+3), pieceOf(sum, 1<<32, 3), pieceOf(sum, 0, 1<<63), pieceOf(sum, 0, 1<<64-1), pieceOf(sum, 1<<63, 3), pieceOf(sum, 1<<64-1, 3), pieceOf(sum, 1<<64-1, 1<<64-1),
	}
	for _, b := range bad {
		// Ahead of all that could be wrong with the others.
		for _, list := range [][][]byte{{b}, {b, l[0], l[1], l[2]}, {l[0], l[1], l[2], b}, {l[0], b}, {pieceOf(1, 0, 1), b, l[0]}, {pieceOf(sum, 0, 3, 'x'), l[0], b}} {
			notJoined(t, api.ErrPiece, list...)
		}
	}
	for _, c := range brokenFrames() {
		notJoined(t, api.ErrPiece, c.b)
	}
}

// Promise 17.9: pieces that are ones, and do not belong together, or are not all; and what comes first of these.
func TestJoinRefusals(t *testing.T) {
	l := pieces(t, []byte("abcde"), 2)
	other, longer := pieces(t, []byte("abcdf"), 2), pieces(t, []byte("abcde"), 3)
	sum := crc32.ChecksumIEEE([]byte("abcde"))
	for _, list := range [][][]byte{
		{l[0], other[1]}, {l[0], l[1], l[2], other[2]}, {other[0], l[0], l[1], l[2]}, {l[0], longer[1]}, {longer[0], longer[1], l[2]},
		{l[0], pieceOf(sum, 0, 3, 'a')}, {l[0], l[1], l[2], pieceOf(sum, 1, 3)}, {pieceOf(sum, 1, 3), l[0], l[1], l[2]}, {pieceOf(sum, 2, 3), pieceOf(sum, 2, 3, 0)},
		{l[0], pieceOf(sum+1, 0, 3, []byte("ab")...)}, {l[0], pieceOf(sum, 0, 4, []byte("ab")...)}, {l[0], l[1], l[2], pieceOf(sum, 0, 1024)},
	} {
		notJoined(t, api.ErrPieces, list...)
		slices.Reverse(list)
		notJoined(t, api.ErrPieces, list...)
	}
	for _, list := range [][][]byte{{l[0]}, {l[1]}, {l[2]}, {l[0], l[1]}, {l[1], l[2], l[2], l[1]}, {pieceOf(1, 0, 1024)}, {pieceOf(1, 1023, 1024)}} {
		notJoined(t, api.ErrGap, list...)
	}
	// All there, but of another sum: a byte of the whole is another one, or the pieces were numbered wrongly.
	for _, list := range [][][]byte{
		{pieceOf(sum, 0, 1, []byte("abcdf")...)}, {pieceOf(sum, 0, 1)}, {pieceOf(0, 0, 1, 0)}, {pieceOf(sum, 1, 3, []byte("ab")...), pieceOf(sum, 0, 3, []byte("cd")...), l[2]},
	} {
		notJoined(t, api.ErrPiece, list...)
	}
}

// Promise 17.9: a piece's part may be empty, or longer than Cut would make it.
func TestJoinAnyParts(t *testing.T) {
	sum := crc32.ChecksumIEEE([]byte("abcde"))
	joins(t, "abcde", pieceOf(sum, 0, 4), pieceOf(sum, 1, 4, []byte("abcd")...), pieceOf(sum, 3, 4, 'e'), pieceOf(sum, 2, 4))
	joins(t, "", pieceOf(0, 0, 3), pieceOf(0, 2, 3), pieceOf(0, 1, 3))
	joins(t, "abcde", pieceOf(sum, 0, 1, []byte("abcde")...))
	long := make([]byte, 1048576-7)
	joins(t, string(long), pieceOf(crc32.ChecksumIEEE(long), 0, 1, long...))
	notJoined(t, api.ErrPiece, pieceOf(crc32.ChecksumIEEE(append(long, 0)), 0, 1, append(long, 0)...))
}

// Promise 17.9: the whole is at most MaxArchive bytes; that is asked behind all but its sum.
func TestJoinLong(t *testing.T) {
	const size = 1 << 20
	part := make([]byte, size-16)
	rest := make([]byte, maxArchive-8*len(part))
	sum := crc32.ChecksumIEEE(make([]byte, maxArchive))
	over := crc32.ChecksumIEEE(make([]byte, maxArchive+1))
	list := func(sum uint32, rest []byte) [][]byte {
		out := [][]byte{pieceOf(sum, 8, 9, rest...)}
		for k := range 8 {
			out = append(out, pieceOf(sum, uint64(k), 9, part...))
		}
		return out
	}
	if b, e := archive.Join(list(sum, rest)...); e != api.OK || len(b) != maxArchive {
		t.Errorf("just as many as may be: %d bytes, %d", len(b), e)
	}
	rest = append(rest, 0)
	for _, s := range []uint32{over, sum, 0} {
		if b, e := archive.Join(list(s, rest)...); e != api.ErrLong || b != nil {
			t.Errorf("a byte more: %d bytes, %d", len(b), e)
		}
	}
	if b, e := archive.Join(list(over, rest)[1:]...); e != api.ErrGap || b != nil {
		t.Errorf("the last one is missing: %d", e)
	}
	if b, e := archive.Join(append(list(over, rest), pieceOf(sum, 8, 9))...); e != api.ErrPieces || b != nil {
		t.Errorf("and one of another whole: %d", e)
	}
}

// shuffled is a list in another order.
func shuffled[T any](r *rand.Rand, list []T) []T {
	out := slices.Clone(list)
	r.Shuffle(len(out), func(i, j int) { out[i], out[j] = out[j], out[i] })
	return out
}

// Promise 17.10: what was cut is joined, in any order, some of it again; not without all pieces of one number, not with a bit turned over.
func TestCutAndJoin(t *testing.T) {
	r := rand.New(rand.NewSource(1710))
	for range 400 {
		b := drawBytes(r, pick(r, 0, 1, 2, 10, 100, 1000))
		l := pieces(t, b, 1+r.Intn(100)+len(b)/1024)
		list := slices.Clone(l)
		for range r.Intn(8) {
			list = append(list, pick(r, l...))
		}
		joins(t, string(b), shuffled(r, list)...)
		gone := pick(r, l...)
		notJoined(t, api.ErrGap, slices.DeleteFunc(shuffled(r, list), func(p []byte) bool { return string(p) == string(gone) })...)
		list = shuffled(r, list)
		i := r.Intn(len(list))
		list[i] = slices.Clone(list[i])
		list[i][r.Intn(len(list[i]))] ^= 1 << r.Intn(8)
		notJoined(t, api.ErrPiece, list...)
	}
}

// Promise 17.10: each bit of each piece, of short pieces and of those whose length has two bytes and three.
func TestEachPieceBit(t *testing.T) {
	r := rand.New(rand.NewSource(1711))
	for _, c := range []struct{ n, size, step int }{{0, 1, 1}, {5, 2, 1}, {300, 7, 1}, {500, 115, 1}, {500, 200, 1}, {40000, 20000, 1999}} {
		l := pieces(t, drawBytes(r, c.n), c.size)
		for k := range l {
			for i := 0; i < 8*len(l[k]); i++ {
				if i > 8*20 && i < 8*len(l[k])-8*20 && i%c.step != 0 {
					continue
				}
				l[k][i/8] ^= 1 << (i % 8)
				if b, e := archive.Join(l...); e != api.ErrPiece || b != nil {
					t.Fatalf("%+v, piece %d, bit %d: %d", c, k, i, e)
				}
				l[k][i/8] ^= 1 << (i % 8)
			}
		}
	}
}

// drawPieces is pieces of one whole or more, right and wrong ones.
func drawPieces(r *rand.Rand) [][]byte {
	whole := drawBytes(r, r.Intn(6))
	var out [][]byte
	for _, p := range cutTwin(whole, 1+r.Intn(4)) {
		if r.Intn(12) > 0 {
			out = append(out, p)
		}
		for r.Intn(4) == 0 {
			out = append(out, p)
		}
	}
	sum := crc32.ChecksumIEEE(whole)
	switch r.Intn(10) {
	case 0:
		out = append(out, pieceOf(sum, uint64(r.Intn(4)), uint64(r.Intn(4)), drawBytes(r, r.Intn(2))...))
	case 1:
		out = append(out, pick(r, cutTwin(drawBytes(r, r.Intn(6)), 1+r.Intn(4))...))
	case 2:
		out = append(out, drawBytes(r, r.Intn(20)))
	case 3:
		out = [][]byte{pieceOf(sum, 0, 2, whole[:len(whole)/2]...), pieceOf(sum^uint32(r.Intn(2)), 1, 2, whole[len(whole)/2:]...)}
	case 4:
		out = [][]byte{pieceOf(sum^uint32(r.Intn(2)), 0, 1, whole...)}
	}
	return out
}

// Promise 17.9: drawn pieces, held against the second reading; and whatever their order, the same is told.
func TestJoinLaw(t *testing.T) {
	r := rand.New(rand.NewSource(179))
	seen := map[api.Errno]int{}
	for range 12000 {
		list := drawPieces(r)
		want, we := joinTwin(list)
		for range 3 {
			if b, e := archive.Join(list...); e != we || string(b) != string(want) {
				t.Fatalf("% x: % x, %d, not % x, %d", list, b, e, want, we)
			}
			list = shuffled(r, list)
		}
		seen[we]++
	}
	for _, e := range []api.Errno{api.OK, api.ErrPiece, api.ErrPieces, api.ErrGap} {
		if seen[e] < 200 {
			t.Errorf("%d came %d times: %v", int(e), seen[e], seen)
		}
	}
}
