package archive

import (
	"bytes"
	"sync"

	"annals/api"
)

// workers is how many look at pieces side by side, at most.
const workers = 8

// Join lays pieces together, in whatever order they come.
func Join(pieces ...[]byte) ([]byte, api.Errno) {
	if len(pieces) == 0 {
		return nil, api.ErrGap
	}
	all := lookAll(pieces)
	for _, f := range all {
		if !f.is {
			return nil, api.ErrPiece
		}
	}
	parts, e := sortParts(all)
	if e != api.OK {
		return nil, e
	}
	return wholeOf(parts, all[0].piece.sum)
}

// found is what a worker has found at a place of those that were handed in: a piece, or none.
type found struct {
	place int
	piece piece
	is    bool
}

// lookAt looks for a piece at one of the places.
func lookAt(pieces [][]byte, place int) found {
	p, is := readPiece(pieces[place])
	return found{place: place, piece: p, is: is}
}

// lookAll looks at all places side by side. What is found comes in any order, and goes where it belongs.
func lookAll(pieces [][]byte) []found {
	places := make(chan int, len(pieces))
	for n := range pieces {
		places <- n
	}
	close(places)
	finds := make(chan found)
	var looking, closing sync.WaitGroup
	for range min(workers, len(pieces)) {
		looking.Go(func() {
			for n := range places {
				finds <- lookAt(pieces, n)
			}
		})
	}
	closing.Go(func() {
		looking.Wait()
		close(finds)
	})
	out := make([]found, len(pieces))
	for f := range finds {
		out[f.place] = f
	}
	closing.Wait()
	return out
}

// sortParts is the parts of all pieces, by their numbers. All that were found are pieces, and there is one at least.
func sortParts(all []found) ([][]byte, api.Errno) {
	first := all[0].piece
	byNumber := map[int][]byte{}
	for _, f := range all {
		p := f.piece
		if p.sum != first.sum || p.count != first.count {
			return nil, api.ErrPieces
		}
		part, is := byNumber[p.number]
		if is && !bytes.Equal(part, p.part) {
			return nil, api.ErrPieces
		}
		byNumber[p.number] = p.part
	}
	// Each number is below the count: so as many as that are all of them.
	if len(byNumber) < first.count {
		return nil, api.ErrGap
	}
	out := make([][]byte, first.count)
	for n := range out {
		out[n] = byNumber[n]
	}
	return out, api.OK
}

// wholeOf is the parts laid together, if they have the sum that the pieces tell.
func wholeOf(parts [][]byte, sum [sumSize]byte) ([]byte, api.Errno) {
	var out []byte
	for _, p := range parts {
		if len(p) > api.MaxArchive-len(out) {
			return nil, api.ErrLong
		}
		out = append(out, p...)
	}
	if sumOf(out) != sum {
		return nil, api.ErrPiece
	}
	return out, api.OK
}
