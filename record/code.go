package record

import (
	"annals/api"
	"annals/wire"
)

// maxNameBytes bounds the bytes of a name that are read: a rune has four of them at most.
const maxNameBytes = 4 * api.MaxName

// Encode writes a valid record's bytes.
func Encode(r api.Record) ([]byte, api.Errno) {
	if e := Check(r); e != api.OK {
		return nil, e
	}
	p := apart(r)
	var out []byte
	for tag := tagKind; tag <= tagData; tag++ {
		if p.isZero(tag) {
			continue
		}
		out = append(out, wire.Uint(uint64(tag))...)
		out = append(out, p.value(tag)...)
	}
	return out, api.OK
}

// Size is the length of a valid record's bytes.
func Size(r api.Record) (int, api.Errno) {
	b, e := Encode(r)
	return len(b), e
}

// value is the bytes of the field of a tag.
func (p parts) value(tag int) []byte {
	switch tag {
	case tagCode:
		return wire.Int(int64(p.nums[tag]))
	case tagName:
		return wire.Bytes([]byte(p.name))
	case tagData:
		return wire.Bytes(p.data)
	}
	return wire.Uint(uint64(p.nums[tag]))
}

// Decode reads a record of the version v.
func Decode(v int, b []byte) (api.Record, api.Errno) {
	if !isVersion(v) {
		return api.Record{}, api.ErrVersion
	}
	p, e := readParts(b)
	if e != api.OK {
		return api.Record{}, e
	}
	r := p.joined(v)
	if e := Check(r); e != api.OK {
		return api.Record{}, e
	}
	return r, api.OK
}

// readParts reads field by field till the end of b; what the fields hold together is not looked at.
func readParts(b []byte) (parts, api.Errno) {
	var p parts
	for at, last := 0, 0; at < len(b); {
		tag, from, e := readTag(b, at, last)
		if e != api.OK {
			return parts{}, e
		}
		end, e := p.read(tag, b, from)
		if e != api.OK {
			return parts{}, e
		}
		if p.isZero(tag) {
			return parts{}, api.ErrZero
		}
		at, last = end, tag
	}
	return p, api.OK
}

// readTag reads the tag at at, which must be above the one ahead of it.
func readTag(b []byte, at, last int) (int, int, api.Errno) {
	n, end, e := wire.ReadUint(b, at)
	if e != api.OK {
		return 0, 0, e
	}
	if n <= uint64(last) || n > tagData {
		return 0, 0, api.ErrTag
	}
	return int(n), end, api.OK
}

// read takes the value at at as the field of a tag, and tells where it ends.
func (p *parts) read(tag int, b []byte, at int) (end int, e api.Errno) {
	switch tag {
	case tagCode:
		var n int64
		n, end, e = wire.ReadInt(b, at)
		p.nums[tag] = int(n)
	case tagName:
		var name []byte
		name, end, e = wire.ReadBytes(b, at, maxNameBytes)
		p.name = string(name)
	case tagData:
		p.data, end, e = wire.ReadBytes(b, at, api.MaxData)
	default:
		p.nums[tag], end, e = readNumber(b, at)
	}
	return end, e
}

// readNumber reads a number that an id or a time may be.
func readNumber(b []byte, at int) (int, int, api.Errno) {
	n, end, e := wire.ReadUint(b, at)
	if e != api.OK {
		return 0, 0, e
	}
	if n > api.MaxID {
		return 0, 0, api.ErrBound
	}
	return int(n), end, api.OK
}
