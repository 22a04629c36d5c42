package segment

import (
	"bytes"

	"annals/api"
	"annals/index"
	"annals/wire"
)

const (
	sealWord    = "SEAL"
	placeSize   = 4 // bytes of the place that the trailer tells
	trailerSize = placeSize + len(sealWord)
)

// footer is what seals a good run that nothing stands behind. The frame is not refused: the index of what fits into a segment fits into a frame.
func (g good) footer() []byte {
	out, _ := wire.Frame(g.footerBody())
	out = append(out, placeBytes(g.end)...)
	return append(out, sealWord...)
}

// footerBody is the body of the footer's frame. The index is not refused: sagas are numbered from 1 on, and the places of a run rise.
func (g good) footerBody() []byte {
	list, _ := index.Encode(g.sagas)
	out := append([]byte{footerLetter}, wire.Uint(uint64(len(g.recs)))...)
	return append(out, list...)
}

// placeBytes is a place as it stands in the trailer, lowest byte first.
func placeBytes(at int) []byte {
	return []byte{byte(at), byte(at >> 8), byte(at >> 16), byte(at >> 24)}
}

// readPlace reads what placeBytes wrote.
func readPlace(b []byte) int {
	return int(b[0]) | int(b[1])<<8 | int(b[2])<<16 | int(b[3])<<24
}

// seal is what a footer that is one tells.
type seal struct {
	at    int // where its frame begins
	body  []byte
	sagas *index.Multi[int]
}

// readSeal reads the footer at the end of a segment; whether it is that of the records ahead of it is not looked at.
func readSeal(b []byte) (seal, api.Errno) {
	if len(b) < headSize+trailerSize || !bytes.HasSuffix(b, []byte(sealWord)) {
		return seal{}, api.ErrUnsealed
	}
	end := len(b) - trailerSize
	s := seal{at: readPlace(b[end:])}
	if s.at < headSize || s.at > end {
		return seal{}, api.ErrFooter
	}
	body, next, e := wire.ReadFrame(b, s.at)
	if e != api.OK || next != end || body[0] != footerLetter {
		return seal{}, api.ErrFooter
	}
	_, from, e := wire.ReadUint(body, 1)
	if e != api.OK {
		return seal{}, api.ErrFooter
	}
	if s.sagas, e = index.Decode(body[from:]); e != api.OK {
		return seal{}, api.ErrFooter
	}
	s.body = body
	return s, api.OK
}

// isOf tells whether the footer is that of a good run. Of the number and of the index there is one writing: so their bytes are held against each other.
func (s seal) isOf(g good) bool { return bytes.Equal(s.body, g.footerBody()) }

// beginSealed is a reader of a sealed segment's run, which must end at the footer, and that footer.
func beginSealed(b []byte) (*strict, seal, api.Errno) {
	c, e := begin(b)
	if e != api.OK {
		return nil, seal{}, e
	}
	s, e := readSeal(b)
	if e != api.OK {
		return nil, seal{}, e
	}
	return &strict{cursor: c, to: s.at}, s, api.OK
}
