package wire

import "annals/api"

const (
	sumSize = 4           // bytes of a sum
	tail    = sumSize + 1 // what stands behind a body: the sum and the mark
)

// Frame lays the parts, one behind the other, into a frame.
func Frame(parts ...[]byte) ([]byte, api.Errno) {
	n, e := bodySize(parts)
	if e != api.OK {
		return nil, e
	}
	head := Uint(uint64(n))
	out := make([]byte, 0, len(head)+n+tail)
	out = append(out, head...)
	for _, p := range parts {
		out = append(out, p...)
	}
	out = append(out, sumBytes(Sum(out))...)
	return append(out, api.Mark), api.OK
}

// bodySize is the length of all parts joined. It stops at the bound, so that no number of parts can carry it round.
func bodySize(parts [][]byte) (int, api.Errno) {
	n := 0
	for _, p := range parts {
		if len(p) > api.MaxFrame-n {
			return 0, api.ErrOver
		}
		n += len(p)
	}
	if n == 0 {
		return 0, api.ErrEmpty
	}
	return n, api.OK
}

// sumBytes is a sum as it stands in a frame, lowest byte first.
func sumBytes(s uint32) []byte {
	return []byte{byte(s), byte(s >> 8), byte(s >> 16), byte(s >> 24)}
}

// readSum reads what sumBytes wrote.
func readSum(b []byte) uint32 {
	return uint32(b[0]) | uint32(b[1])<<8 | uint32(b[2])<<16 | uint32(b[3])<<24
}

// ReadFrame reads the frame that stands at at: its body, and where it ends.
func ReadFrame(b []byte, at int) ([]byte, int, api.Errno) {
	n, from, e := ReadUint(b, at)
	if e != api.OK {
		return nil, 0, e
	}
	if n == 0 {
		return nil, 0, api.ErrEmpty
	}
	if n > api.MaxFrame {
		return nil, 0, api.ErrOver
	}
	to := from + int(n)
	if len(b)-to < tail {
		return nil, 0, api.ErrShort
	}
	if b[to+sumSize] != api.Mark {
		return nil, 0, api.ErrMark
	}
	if readSum(b[to:]) != Sum(b[at:to]) {
		return nil, 0, api.ErrSum
	}
	return own(b[from:to]), to + tail, api.OK
}

// ReadFrames reads frames from at on, as many as stand there: their bodies, and where the last one ends.
func ReadFrames(b []byte, at int) ([][]byte, int) {
	if outside(b, at) {
		return nil, 0
	}
	var bodies [][]byte
	for {
		body, end, e := ReadFrame(b, at)
		if e != api.OK {
			return bodies, at
		}
		bodies = append(bodies, body)
		at = end
	}
}
