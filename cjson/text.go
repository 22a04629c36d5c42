package cjson

import (
	"unicode/utf8"

	"annals/api"
)

// blank is the first rune that may stand in a string as it is.
const blank = ' '

// Code units that are halves of a code point: a first one, and behind it a second one.
const (
	firstHalf  = 0xd800
	secondHalf = 0xdc00
	behindHalf = 0xe000
	halfBits   = 10
	halved     = 0x10000 // the least code point that has halves
	unitDigits = 4
)

// text reads a string.
func (r *reader) text() string {
	r.at++ // its first quote, which the caller has seen
	var out []byte
	for {
		n := plain(r.s[r.at:])
		out = append(out, r.s[r.at:r.at+n]...)
		r.at += n
		switch c := r.peek(); {
		case c == '"':
			r.at++
			return string(out)
		case c == '\\':
			out = utf8.AppendRune(out, r.escape())
		case c < blank:
			panic(fault{api.ErrByte, r.at})
		default:
			panic(fault{api.ErrUTF, r.at})
		}
	}
}

// plain is how many bytes there are ahead of the first rune that does not stand for itself in a string.
func plain(s string) int {
	for i, r := range s {
		if r == '"' || r == '\\' || r < blank || stray(s, i, r) {
			return i
		}
	}
	return len(s)
}

// escape reads an escape.
func (r *reader) escape() rune {
	at := r.at
	r.at++
	c := r.peek()
	r.at++
	switch c {
	case '"', '\\', '/':
		return rune(c)
	case 'b':
		return '\b'
	case 'f':
		return '\f'
	case 'n':
		return '\n'
	case 'r':
		return '\r'
	case 't':
		return '\t'
	case 'u':
		return r.point(at)
	}
	panic(fault{api.ErrBackslash, at})
}

// point reads the code point that stands behind \u, in one unit or in two; whatever is wrong with it is told at the place of its backslash.
func (r *reader) point(backslash int) rune {
	first := r.unit(backslash)
	if first < firstHalf || first >= behindHalf {
		return first
	}
	if first >= secondHalf {
		panic(fault{api.ErrBackslash, backslash})
	}
	r.within('\\', backslash)
	r.within('u', backslash)
	second := r.unit(backslash)
	if second < secondHalf || second >= behindHalf {
		panic(fault{api.ErrBackslash, backslash})
	}
	return halved + (first-firstHalf)<<halfBits + (second - secondHalf)
}

// within goes over a byte that has to come next in an escape.
func (r *reader) within(c byte, backslash int) {
	if r.peek() != c {
		panic(fault{api.ErrBackslash, backslash})
	}
	r.at++
}

// unit reads four hexadecimal digits.
func (r *reader) unit(backslash int) rune {
	n := rune(0)
	for range unitDigits {
		d := hexDigit(r.peek())
		if d < 0 {
			panic(fault{api.ErrBackslash, backslash})
		}
		n = n<<hexBits | d
		r.at++
	}
	return n
}

// hexDigit is what a hexadecimal digit stands for, or -1.
func hexDigit(c byte) rune {
	switch {
	case digit(c):
		return rune(c - '0')
	case 'a' <= c && c <= 'f':
		return rune(c-'a') + 10
	case 'A' <= c && c <= 'F':
		return rune(c-'A') + 10
	}
	return -1
}
