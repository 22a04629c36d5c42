package archive

import (
	"bytes"

	"annals/api"
	"annals/record"
	"annals/wire"
)

// Read reads an archive, or tells where it is none.
func Read(b []byte) (api.Archive, api.Errno, int) {
	if len(b) > api.MaxArchive {
		return api.Archive{}, api.ErrLong, api.MaxArchive
	}
	if !bytes.HasPrefix(b, []byte(head)) {
		return api.Archive{}, api.ErrArchive, 0
	}
	r := reader{b: b, at: len(head)}
	if e := r.readFrames(); e != api.OK {
		return api.Archive{}, e, r.at
	}
	return r.out, api.OK, 0
}

// reader goes through the frames of an archive.
type reader struct {
	b    []byte
	at   int    // behind the last frame that is good: where the next one begins, or what is wrong
	left uint64 // how many records' frames are still to come; the archive may say any number
	out  api.Archive
}

// readFrames reads all that stands behind the head.
func (r *reader) readFrames() api.Errno {
	if e := r.take(r.first); e != api.OK {
		return e
	}
	for ; r.left > 0; r.left-- {
		if e := r.take(r.record); e != api.OK {
			return e
		}
	}
	if e := r.take(r.last); e != api.OK {
		return e
	}
	if r.at < len(r.b) {
		return api.ErrEnding
	}
	return api.OK
}

// take reads the next frame, and goes behind it if its body is what it has to be.
func (r *reader) take(look func(body []byte) api.Errno) api.Errno {
	body, end, e := wire.ReadFrame(r.b, r.at)
	if e != api.OK {
		return e
	}
	if e := look(body); e != api.OK {
		return e
	}
	r.at = end
	return api.OK
}

// first takes the numbers of the first frame. (No frame has an empty body.)
func (r *reader) first(body []byte) api.Errno {
	if body[0] != letterFirst {
		return api.ErrArchive
	}
	top, at, e := wire.ReadUint(body, 1)
	if e != api.OK || top > api.MaxID {
		return api.ErrArchive
	}
	count, end, e := wire.ReadUint(body, at)
	if e != api.OK || end != len(body) {
		return api.ErrArchive
	}
	r.out.Top, r.left = int(top), count
	return api.OK
}

// record takes the record of a record's frame.
func (r *reader) record(body []byte) api.Errno {
	if body[0] != letterRecord {
		return api.ErrCount
	}
	if len(body) == 1 {
		return api.ErrVersion
	}
	// Of a version that is none Decode tells just that, ahead of all else.
	rec, e := record.Decode(int(body[1]), body[2:])
	if e != api.OK {
		return e
	}
	r.out.Recs = append(r.out.Recs, rec)
	return api.OK
}

// last holds the last frame against all bytes ahead of it.
func (r *reader) last(body []byte) api.Errno {
	if body[0] == letterRecord {
		return api.ErrCount
	}
	sum := sumOf(r.b[:r.at])
	if body[0] != letterLast || !bytes.Equal(body[1:], sum[:]) {
		return api.ErrArchive
	}
	return api.OK
}
