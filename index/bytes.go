package index

import (
	"annals/api"
	"annals/wire"
)

const (
	minKey    = 1
	maxOffset = 1<<63 - 1
)

// Encode writes an index of offsets.
func Encode(m *Multi[int]) ([]byte, api.Errno) {
	if m == nil {
		return nil, api.ErrArg
	}
	out := wire.Uint(uint64(len(m.values)))
	key, offset := 0, 0
	for k, v := range m.All() {
		if k < minKey {
			return nil, api.ErrKey
		}
		first := k != key
		if first {
			out = append(out, wire.Uint(uint64(k-key))...)
			out = append(out, wire.Uint(uint64(len(m.values[k])))...)
			key, offset = k, 0
		}
		if v < offset || v == offset && !first {
			return nil, api.ErrOffset
		}
		out = append(out, wire.Uint(uint64(v-offset))...)
		offset = v
	}
	return out, api.OK
}

// Decode reads an index of offsets.
func Decode(b []byte) (*Multi[int], api.Errno) {
	r := reader{b: b}
	keys, e := r.number()
	if e != api.OK {
		return nil, e
	}
	m := New[int]()
	key := 0
	for range keys {
		if key, e = r.key(key); e != api.OK {
			return nil, e
		}
		if e = r.offsets(m, key); e != api.OK {
			return nil, e
		}
	}
	if r.at != len(b) {
		return nil, api.ErrRest
	}
	return m, api.OK
}

// reader goes through the numbers of an index, from the left.
type reader struct {
	b  []byte
	at int
}

func (r *reader) number() (uint64, api.Errno) {
	v, end, e := wire.ReadUint(r.b, r.at)
	if e != api.OK {
		return 0, e
	}
	r.at = end
	return v, api.OK
}

// key reads the key that comes behind another.
func (r *reader) key(before int) (int, api.Errno) {
	by, e := r.number()
	if e != api.OK {
		return 0, e
	}
	// Held against the room that is left, so that no sum goes round.
	if by == 0 || by > uint64(api.MaxID-before) {
		return 0, api.ErrKey
	}
	return before + int(by), api.OK
}

// offsets reads those of a key into m. It takes them one by one, so that a number of them that the bytes can't hold makes no room.
func (r *reader) offsets(m *Multi[int], key int) api.Errno {
	count, e := r.number()
	if e != api.OK {
		return e
	}
	if count == 0 {
		return api.ErrValues
	}
	offset := 0
	for i := range count {
		by, e := r.number()
		if e != api.OK {
			return e
		}
		if by == 0 && i > 0 || by > uint64(maxOffset-offset) {
			return api.ErrOffset
		}
		offset += int(by)
		m.Add(key, offset)
	}
	return api.OK
}
