package ship

import (
	"annals/api"
	"annals/record"
	"annals/wire"
)

// What the body of a frame begins with.
const (
	letterAsk    = 'Q'
	letterAnswer = 'A'
	letterNote   = 'F'
)

// loadingMark stands behind the frame of FOLLOW while the follower is loading.
const loadingMark = "L"

const (
	noEpoch    = 0 // of a follower that never took an answer
	firstEpoch = 1
)

// frame is a frame around a letter and the parts. Nothing that this package frames is too long for one.
func frame(letter byte, parts ...[]byte) []byte {
	out, _ := wire.Frame(append([][]byte{{letter}}, parts...)...)
	return out
}

// number is the bytes of a number that is not below 0.
func number(n int) []byte { return wire.Uint(uint64(n)) }

// writeAsk is the ask of a follower at that place.
func writeAsk(p api.Place) []byte { return frame(letterAsk, number(p.Epoch), number(p.Have)) }

// readAsk reads the place of the follower that asks; false, if the bytes are no ask.
func readAsk(b []byte) (api.Place, bool) {
	r, behind := openFrame(b, letterAsk)
	p := api.Place{Epoch: r.number(noEpoch, api.MaxNumber), Have: r.number(0, api.MaxID)}
	return p, r.ended() && len(behind) == 0
}

// answer is what a leader tells: records of its synced list, and what goes with them.
type answer struct {
	epoch int
	from  int // the place of the first record
	total int // of the whole list
	top   int
	recs  []api.Record
}

// due is how many records an answer has.
func (a answer) due() int { return min(api.MaxBatch, a.total-a.from) }

func (a answer) write() []byte {
	parts := [][]byte{number(a.epoch), number(a.from), number(a.total), number(a.top), number(len(a.recs))}
	for _, r := range a.recs {
		// What was lifted is valid: none is refused.
		b, _ := record.Encode(r)
		parts = append(parts, wire.Bytes(b))
	}
	return frame(letterAnswer, parts...)
}

// readAnswer reads an answer; false, if the bytes are none.
func readAnswer(b []byte) (answer, bool) {
	r, behind := openFrame(b, letterAnswer)
	a := answer{
		epoch: r.number(firstEpoch, api.MaxNumber),
		from:  r.number(0, api.MaxID),
		total: r.number(0, api.MaxID),
		top:   r.number(0, api.MaxID),
	}
	count := r.number(0, api.MaxBatch)
	if r.bad || a.from > a.total || count != a.due() {
		return answer{}, false
	}
	for range count {
		a.recs = append(a.recs, r.record())
	}
	return a, r.ended() && len(behind) == 0
}

// note is what the file FOLLOW says.
type note struct {
	epoch   int
	loading bool
}

func (n note) write() []byte {
	out := frame(letterNote, number(n.epoch))
	if n.loading {
		out = append(out, loadingMark...)
	}
	return out
}

// readNote reads the bytes of a file FOLLOW; false, if they are none.
func readNote(b []byte) (note, bool) {
	r, behind := openFrame(b, letterNote)
	n := note{epoch: r.number(firstEpoch, api.MaxNumber), loading: string(behind) == loadingMark}
	return n, r.ended() && (n.loading || len(behind) == 0)
}

// reader takes what stands in a frame's body, from the left. Once something was wrong it is bad, and nothing that it takes counts.
type reader struct {
	body []byte
	at   int
	bad  bool
}

// openFrame reads the frame with which bytes begin, if its body begins with the letter, and tells the bytes behind it. (No frame has an empty body.)
func openFrame(b []byte, letter byte) (*reader, []byte) {
	body, end, e := wire.ReadFrame(b, 0)
	if e != api.OK || body[0] != letter {
		return &reader{bad: true}, nil
	}
	return &reader{body: body, at: 1}, b[end:]
}

// number takes a number within these bounds.
func (r *reader) number(least, most int) int {
	n, at, e := wire.ReadUint(r.body, r.at)
	if e != api.OK || n < uint64(least) || n > uint64(most) {
		r.bad = true
		return 0
	}
	r.at = at
	return int(n)
}

// record takes a record with its length ahead of it.
func (r *reader) record() api.Record {
	b, at, e := wire.ReadBytes(r.body, r.at, api.MaxFrame)
	if e != api.OK {
		r.bad = true
		return api.Record{}
	}
	rec, e := record.Decode(version, b)
	r.at, r.bad = at, r.bad || e != api.OK
	return rec
}

// ended tells whether the whole body was taken, and nothing in it was wrong.
func (r *reader) ended() bool { return !r.bad && r.at == len(r.body) }
