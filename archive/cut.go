package archive

import (
	"bytes"
	"iter"

	"annals/api"
	"annals/wire"
)

// Cut gives bytes in pieces of that size, each with its place in the whole.
func Cut(b []byte, size int) (iter.Seq[[]byte], api.Errno) {
	count, e := countPieces(len(b), size)
	if e != api.OK {
		return func(func([]byte) bool) {}, e
	}
	whole := bytes.Clone(b)
	sum := sumOf(whole)
	return func(yield func([]byte) bool) {
		for number := range count {
			from := number * size
			p := piece{sum: sum, number: number, count: count, part: whole[from:min(from+size, len(whole))]}
			if !yield(p.write()) {
				return
			}
		}
	}, api.OK
}

// countPieces is how many pieces of that size so many bytes are: one at least.
func countPieces(length, size int) (int, api.Errno) {
	if length > api.MaxArchive {
		return 0, api.ErrLong
	}
	if size < 1 || size > api.MaxLimit {
		return 0, api.ErrArg
	}
	n := max(1, (length+size-1)/size)
	if n > api.MaxPieces {
		return 0, api.ErrArg
	}
	return n, api.OK
}

// piece is what a piece tells.
type piece struct {
	sum    [sumSize]byte // of the whole
	number int           // from 0 on
	count  int           // of all pieces
	part   []byte
}

// write is the piece as one frame.
func (p piece) write() []byte {
	return frame(letterPiece, p.sum[:], wire.Uint(uint64(p.number)), wire.Uint(uint64(p.count)), p.part)
}

// readPiece reads a piece; false, if the bytes are none.
func readPiece(b []byte) (piece, bool) {
	body, end, e := wire.ReadFrame(b, 0)
	if e != api.OK || end != len(b) || body[0] != letterPiece || len(body) <= sumSize {
		return piece{}, false
	}
	sum := [sumSize]byte(body[1:])
	number, at, e := wire.ReadUint(body, 1+sumSize)
	if e != api.OK {
		return piece{}, false
	}
	count, at, e := wire.ReadUint(body, at)
	if e != api.OK || count > api.MaxPieces || number >= count {
		return piece{}, false
	}
	return piece{sum: sum, number: int(number), count: int(count), part: body[at:]}, true
}
