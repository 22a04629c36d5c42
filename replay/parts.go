package replay

import (
	"sync"

	"annals/api"
	"annals/segment"
)

// part is what a worker has read: the segment's number in the log, from 0 on, and its records, or why it could not be read.
type part struct {
	number int
	recs   []api.Record
	e      api.Errno
}

// readPart reads one of a store's segments. All but the last are sealed.
func readPart(blobs [][]byte, number int) part {
	read := segment.Read
	if number == len(blobs)-1 {
		read = segment.Scan
	}
	scan, e := read(blobs[number])
	return part{number: number, recs: scan.Recs, e: e}
}

// readAll reads a store's segments side by side. The parts come in any order, and each goes to its place in the log.
func readAll(blobs [][]byte, workers int) []part {
	numbers := make(chan int, len(blobs))
	for n := range blobs {
		numbers <- n
	}
	close(numbers)
	parts := make(chan part)
	var reading, closing sync.WaitGroup
	for range workers {
		reading.Go(func() {
			for n := range numbers {
				parts <- readPart(blobs, n)
			}
		})
	}
	closing.Go(func() {
		reading.Wait()
		close(parts)
	})
	out := make([]part, len(blobs))
	for p := range parts {
		out[p.number] = p
	}
	closing.Wait()
	return out
}

// joined is the records of all parts, in the log's order; the first part that could not be read decides.
func joined(parts []part) ([]api.Record, api.Errno) {
	var out []api.Record
	for _, p := range parts {
		if p.e != api.OK {
			return nil, p.e
		}
		out = append(out, p.recs...)
	}
	return out, api.OK
}
