package manifest

import (
	"math"

	"annals/api"
	"annals/wire"
)

const letter = 'M' // begins the body of a manifest's frame

// Encode writes a manifest's bytes.
func Encode(m api.Manifest) ([]byte, api.Errno) {
	if e := Check(m); e != api.OK {
		return nil, e
	}
	body := put([]byte{letter}, m.Gen, m.V, m.Next, m.Top, len(m.Segs))
	before := 0
	for _, s := range m.Segs {
		body = put(body, s.Num-before, s.Size, s.Count)
		before = s.Num
	}
	// MaxSegs segments are far from a frame's bound, so it is not refused.
	b, _ := wire.Frame(body)
	return b, api.OK
}

// put writes numbers behind b; none of them is below 0.
func put(b []byte, nums ...int) []byte {
	for _, n := range nums {
		b = append(b, wire.Uint(uint64(n))...)
	}
	return b
}

// Decode reads a manifest.
func Decode(b []byte) (api.Manifest, api.Errno) {
	body, end, e := wire.ReadFrame(b, 0)
	if e != api.OK {
		return api.Manifest{}, e
	}
	if end != len(b) || body[0] != letter {
		return api.Manifest{}, api.ErrManifest
	}
	m, e := parse(body)
	if e != api.OK {
		return api.Manifest{}, e
	}
	if e := Check(m); e != api.OK {
		return api.Manifest{}, e
	}
	return m, api.OK
}

// parse reads the numbers of a body, whether or not they may be a manifest's.
func parse(body []byte) (api.Manifest, api.Errno) {
	r := &reader{body: body, at: 1}
	m := api.Manifest{Gen: r.next(0), V: r.next(0), Next: r.next(0), Top: r.next(0)}
	before := 0
	// The list grows with what is read: the number alone may be far above what the body holds.
	for range r.next(0) {
		s := api.Seg{Num: r.next(before), Size: r.next(0), Count: r.next(0)}
		if r.fault != api.OK {
			break
		}
		m.Segs = append(m.Segs, s)
		before = s.Num
	}
	if r.fault != api.OK {
		return api.Manifest{}, r.fault
	}
	if r.at != len(body) {
		return api.Manifest{}, api.ErrManifest
	}
	return m, api.OK
}

// reader takes the numbers of a body one behind the other. The first fault stays, and behind it all numbers are 0.
type reader struct {
	body  []byte
	at    int
	fault api.Errno
}

// next is the next number and base together; base is not below 0.
func (r *reader) next(base int) int {
	if r.fault != api.OK {
		return 0
	}
	n, end, e := wire.ReadUint(r.body, r.at)
	if e == api.OK && n > uint64(math.MaxInt-base) {
		e = api.ErrManifest
	}
	if e != api.OK {
		r.fault = e
		return 0
	}
	r.at = end
	return base + int(n)
}
