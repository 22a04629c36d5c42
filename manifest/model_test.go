package manifest_test

import (
	"bytes"
	"math"
	"math/big"
	"math/rand"
	"slices"
	"testing"

	"annals/api"
	"annals/manifest"
	"annals/wire"
)

func same(a, b api.Manifest) bool {
	return a.Gen == b.Gen && a.V == b.V && a.Next == b.Next && a.Top == b.Top && slices.Equal(a.Segs, b.Segs)
}

func pick[T any](r *rand.Rand, list ...T) T { return list[r.Intn(len(list))] }

// slowCheck is a second reading of the table of fields: all questions are asked, and the first one that fails is told.
func slowCheck(m api.Manifest) api.Errno {
	type question struct {
		holds bool
		e     api.Errno
	}
	between := func(least, v, most int) bool { return least <= v && v <= most }
	all := []question{
		{between(1, m.Gen, 1<<40), api.ErrGen},
		{m.V == 1 || m.V == 2 || m.V == 3, api.ErrVersion},
		{between(1, m.Next, 1<<40), api.ErrNext},
		{between(0, m.Top, 1<<63-1), api.ErrTop},
		{between(1, len(m.Segs), 128), api.ErrSegs},
	}
	for i, s := range m.Segs {
		if len(m.Segs) > 128 {
			break // it is decided, and there may be very many
		}
		all = append(all, question{1 <= s.Num && s.Num < m.Next, api.ErrSeg})
		for _, ahead := range m.Segs[:i] {
			all = append(all, question{s.Num > ahead.Num, api.ErrSeg})
		}
		if i == len(m.Segs)-1 {
			all = append(all, question{s == api.Seg{Num: s.Num}, api.ErrSeg})
		} else {
			all = append(all, question{between(1, s.Size, 524288), api.ErrSeg}, question{between(0, s.Count, 524288), api.ErrSeg})
		}
	}
	for _, q := range all {
		if !q.holds {
			return q.e
		}
	}
	return api.OK
}

// slowBody is the body of a manifest's frame, whether or not its values may be: each number as the 64 bits that it has.
func slowBody(m api.Manifest) []byte {
	nums := []int{m.Gen, m.V, m.Next, m.Top, len(m.Segs)}
	for i, s := range m.Segs {
		step := s.Num
		if i > 0 {
			step -= m.Segs[i-1].Num
		}
		nums = append(nums, step, s.Size, s.Count)
	}
	body := []byte("M")
	for _, n := range nums {
		body = append(body, wire.Uint(uint64(n))...)
	}
	return body
}

func frame(body ...byte) []byte {
	b, _ := wire.Frame(body)
	return b
}

// slowDecode is a second reading of Decode, in numbers without a bound.
func slowDecode(b []byte) (api.Manifest, api.Errno) {
	body, end, e := wire.ReadFrame(b, 0)
	if e != api.OK {
		return api.Manifest{}, e
	}
	if end < len(b) || body[0] != 'M' {
		return api.Manifest{}, api.ErrManifest
	}
	rest := body[1:]
	var nums []int
	want := big.NewInt(5)
	sum := new(big.Int)
	for want.Cmp(big.NewInt(int64(len(nums)))) > 0 {
		v, n, e := wire.ReadUint(rest, 0)
		if e != api.OK {
			return api.Manifest{}, e
		}
		rest = rest[n:]
		x := new(big.Int).SetUint64(v)
		if k := len(nums) - 5; k >= 0 && k%3 == 0 {
			x.Set(sum.Add(sum, x))
		}
		if x.Cmp(big.NewInt(math.MaxInt64)) > 0 {
			return api.Manifest{}, api.ErrManifest
		}
		if nums = append(nums, int(x.Int64())); len(nums) == 5 {
			want.Mul(x, big.NewInt(3))
			want.Add(want, big.NewInt(5))
		}
	}
	if len(rest) > 0 {
		return api.Manifest{}, api.ErrManifest
	}
	m := api.Manifest{Gen: nums[0], V: nums[1], Next: nums[2], Top: nums[3], Segs: segs(nums[5:]...)}
	if e := slowCheck(m); e != api.OK {
		return api.Manifest{}, e
	}
	return m, api.OK
}

// agree holds Decode against the second reading; what is read must be written again as the same bytes.
func agree(t *testing.T, b []byte) api.Errno {
	t.Helper()
	m, e := manifest.Decode(b)
	want, e2 := slowDecode(b)
	if e != e2 || !same(m, want) {
		t.Fatalf("Decode(% x) = %+v, %d, want %+v, %d", b, m, e, want, e2)
	}
	if e != api.OK {
		return e
	}
	if again, e := manifest.Encode(m); e != api.OK || !bytes.Equal(again, b) {
		t.Fatalf("% x is read, and written as % x, %d", b, again, e)
	}
	return api.OK
}

// drawGood draws a manifest that may be one.
func drawGood(r *rand.Rand) api.Manifest {
	m := api.Manifest{Gen: pick(r, 1, 2, 127, 128, maxNumber, 1+r.Intn(maxNumber)), V: 1 + r.Intn(3), Top: pick(r, 0, 1, 127, 128, math.MaxInt, r.Int())}
	n := pick(r, 1, 1, 2, 3, 4, 5, 127, 128, 1+r.Intn(128))
	num := 0
	for range n {
		num += pick(r, 1, 1, 1, 2, 127, 128, 129, 1+r.Intn(maxNumber/200))
		m.Segs = append(m.Segs, api.Seg{Num: num, Size: pick(r, 1, 5, 127, 128, 524287, 524288, 1+r.Intn(524288)), Count: pick(r, 0, 1, 127, 128, 524288, r.Intn(524288))})
	}
	m.Segs[n-1].Size, m.Segs[n-1].Count = 0, 0
	m.Next = pick(r, num+1, num+2, num+1+r.Intn(maxNumber-num), maxNumber)
	return m
}

// spoil makes one or more of a manifest's values others.
func spoil(r *rand.Rand, m api.Manifest) api.Manifest {
	m.Segs = slices.Clone(m.Segs)
	for range 1 + r.Intn(2) {
		v := pick(r, append(edges, m.Next, m.Next-1, m.Next+1, r.Intn(1000))...)
		i := r.Intn(len(m.Segs))
		switch r.Intn(10) {
		case 0:
			m.Gen = v
		case 1:
			m.V = v
		case 2:
			m.Next = v
		case 3:
			m.Top = v
		case 4:
			m.Segs[i].Num = v
		case 5:
			m.Segs[i].Size = v
		case 6:
			m.Segs[i].Count = v
		case 7:
			m.Segs[len(m.Segs)-1].Num = v
		case 8:
			m.Segs = append(m.Segs, m.Segs[i])
		case 9:
			m.Segs = slices.Insert(m.Segs, i, api.Seg{Num: m.Segs[i].Num - 1, Size: v, Count: r.Intn(3)})
		}
	}
	return m
}

// Promises 8.3 to 8.6: drawn manifests, good ones and such with some wrong values, against the second reading.
func TestDrawn(t *testing.T) {
	r := rand.New(rand.NewSource(8))
	told := map[api.Errno]int{}
	for range 6000 {
		m := drawGood(r)
		if r.Intn(3) > 0 {
			m = spoil(r, m)
		}
		want := slowCheck(m)
		told[want]++
		if e := manifest.Check(m); e != want {
			t.Fatalf("Check(%+v) = %d, want %d", m, e, want)
		}
		b, e := manifest.Encode(m)
		if e != want {
			t.Fatalf("Encode(%+v): %d, want %d", m, e, want)
		}
		raw := frame(slowBody(m)...)
		agree(t, raw)
		if e != api.OK {
			if len(b) != 0 {
				t.Fatalf("beside %d: % x", e, b)
			}
			continue
		}
		if back, e := manifest.Decode(b); e != api.OK || !same(back, m) || !bytes.Equal(b, raw) {
			t.Fatalf("%+v is written as % x, and read as %+v, %d", m, b, back, e)
		}
	}
	for _, e := range []api.Errno{api.OK, api.ErrGen, api.ErrVersion, api.ErrNext, api.ErrTop, api.ErrSegs, api.ErrSeg} {
		if told[e] < 20 {
			t.Errorf("error %d was told %d times alone", e, told[e])
		}
	}
}
