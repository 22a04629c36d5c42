package wire

const (
	polynomial = 0xedb88320 // of IEEE 802.3, its bits in reverse
	halfBits   = 4
	halfMask   = 1<<4 - 1
	allBits    = 1<<32 - 1
)

// halves holds what four steps make of the lowest half byte of the register; it is the same for ever, so it is made once.
var halves = makeHalves()

func makeHalves() [16]uint32 {
	var table [16]uint32
	for i := range table {
		r := uint32(i)
		for range halfBits {
			r = step(r)
		}
		table[i] = r
	}
	return table
}

// step moves the register one bit down, as the document makes the sum.
func step(r uint32) uint32 {
	if r&1 == 1 {
		return r>>1 ^ polynomial
	}
	return r >> 1
}

// Sum is the CRC-32 (IEEE) of the parts, one behind the other.
func Sum(parts ...[]byte) uint32 {
	r := uint32(allBits)
	for _, p := range parts {
		for _, c := range p {
			r ^= uint32(c)
			r = r>>halfBits ^ halves[r&halfMask]
			r = r>>halfBits ^ halves[r&halfMask]
		}
	}
	return ^r
}
