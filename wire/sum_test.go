package wire_test

import (
	"hash/crc32"
	"math/rand"
	"testing"

	"annals/wire"
)

// Promise 1.0, Sum: the chapter's examples.
func TestSumExamples(t *testing.T) {
	rows := []struct {
		parts [][]byte
		sum   uint32
	}{
		{nil, 0},
		{[][]byte{nil}, 0},
		{[][]byte{{}, nil, {}}, 0},
		{[][]byte{[]byte("123456789")}, 0xcbf43926},
		{[][]byte{[]byte("1234"), nil, []byte("56789")}, 0xcbf43926},
		{[][]byte{{0}}, 0xd202ef8d},
		{[][]byte{[]byte("a")}, 0xe8b7be43},
		{[][]byte{{1}, []byte("a")}, 0x62777270},
	}
	for _, r := range rows {
		if s := wire.Sum(r.parts...); s != r.sum {
			t.Errorf("Sum(% x) = %x, not %x", r.parts, s, r.sum)
		}
	}
}

// Promise 1.0, Sum: the check that is in common use, of every byte and of many byte strings, long ones too.
func TestSumIsTheCommonOne(t *testing.T) {
	for c := range 256 {
		if b := []byte{byte(c)}; wire.Sum(b) != crc32.ChecksumIEEE(b) {
			t.Fatalf("Sum(%x) = %x", c, wire.Sum(b))
		}
	}
	r := rand.New(rand.NewSource(5))
	for _, n := range []int{2, 3, 4, 5, 63, 64, 1000, 1 << 20, 3 << 20} {
		b := make([]byte, n)
		r.Read(b)
		if wire.Sum(b) != crc32.ChecksumIEEE(b) {
			t.Errorf("the sum of %d bytes is %x", n, wire.Sum(b))
		}
	}
}

// cut cuts bytes into parts at random, empty ones among them.
func cut(r *rand.Rand, b []byte) [][]byte {
	var parts [][]byte
	for len(b) > 0 {
		n := r.Intn(len(b) + 1)
		parts = append(parts, b[:n], nil)
		b = b[n:]
	}
	return parts
}

// Promise 1.6: how the bytes are cut into parts does not matter, but their order does.
func TestSumOfParts(t *testing.T) {
	r := rand.New(rand.NewSource(6))
	for n := range 200 {
		b := make([]byte, n)
		r.Read(b)
		if wire.Sum(cut(r, b)...) != wire.Sum(b) {
			t.Fatalf("the sum of the parts of % x is another", b)
		}
	}
	if wire.Sum([]byte("a"), []byte("b")) == wire.Sum([]byte("b"), []byte("a")) {
		t.Error("the order of the parts does not matter")
	}
}

// Promise 1.6: of three byte strings laid over one another the sum is the exclusive or of their sums.
func TestSumOfThree(t *testing.T) {
	r := rand.New(rand.NewSource(7))
	for n := range 200 {
		x, y, z, all := make([]byte, n), make([]byte, n), make([]byte, n), make([]byte, n)
		r.Read(x)
		r.Read(y)
		r.Read(z)
		for i := range all {
			all[i] = x[i] ^ y[i] ^ z[i]
		}
		if wire.Sum(all) != wire.Sum(x)^wire.Sum(y)^wire.Sum(z) {
			t.Fatalf("three byte strings of %d bytes: the sum is another", n)
		}
	}
}
