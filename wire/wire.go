// Package wire: numbers, byte strings and framed bytes, strict and minimal: see DOC.md, chapter 1.
package wire

import "annals/api"

const (
	groupBits = 7        // bits of a number that a byte holds
	goesOn    = 1 << 7   // set in each byte of a number but the last
	groupMask = 1<<7 - 1 // the bits that goesOn leaves
	lastGroup = 9        // the place of the tenth byte, behind which 64 bits have no room
	lastBound = 1        // what the tenth byte may be at most: one bit of the 64 is left for it
	signShift = 63       // moves the sign over all bits
)

// outside tells whether no reading can begin at at; behind the last byte it can, and finds nothing.
func outside(b []byte, at int) bool { return at < 0 || at > len(b) }

// Uint writes a number, seven bits a byte, low ones first.
func Uint(v uint64) []byte {
	out := make([]byte, 0, lastGroup+1)
	for v >= goesOn {
		out = append(out, byte(v)|goesOn)
		v >>= groupBits
	}
	return append(out, byte(v))
}

// ReadUint reads the number that stands at at, and tells where it ends.
func ReadUint(b []byte, at int) (uint64, int, api.Errno) {
	if outside(b, at) {
		return 0, 0, api.ErrArg
	}
	var v uint64
	for i, c := range b[at:] {
		if i == lastGroup && c > lastBound {
			return 0, 0, api.ErrWide
		}
		v |= uint64(c&groupMask) << (groupBits * i)
		if c >= goesOn {
			continue
		}
		if c == 0 && i > 0 {
			return 0, 0, api.ErrMinimal
		}
		return v, at + i + 1, api.OK
	}
	return 0, 0, api.ErrShort
}

// Int writes a signed number, zigzag.
func Int(v int64) []byte {
	return Uint(uint64(v)<<1 ^ uint64(v>>signShift))
}

// ReadInt reads a signed number.
func ReadInt(b []byte, at int) (int64, int, api.Errno) {
	u, end, e := ReadUint(b, at)
	if e != api.OK {
		return 0, 0, e
	}
	return int64(u>>1) ^ -int64(u&1), end, api.OK
}

// Bytes writes a byte string, its length ahead of it.
func Bytes(s []byte) []byte {
	return append(Uint(uint64(len(s))), s...)
}

// ReadBytes reads a byte string of at most max bytes.
func ReadBytes(b []byte, at int, max int) ([]byte, int, api.Errno) {
	if outside(b, at) || max < 0 {
		return nil, 0, api.ErrArg
	}
	n, from, e := ReadUint(b, at)
	if e != api.OK {
		return nil, 0, e
	}
	// Held against each other as unsigned numbers: a length above what an int holds is above every max.
	if n > uint64(max) {
		return nil, 0, api.ErrOver
	}
	if n > uint64(len(b)-from) {
		return nil, 0, api.ErrShort
	}
	end := from + int(n)
	return own(b[from:end]), end, api.OK
}

// own is a copy without spare room, so that whoever appends to it writes into memory of their own.
func own(s []byte) []byte {
	out := make([]byte, len(s))
	copy(out, s)
	return out
}
