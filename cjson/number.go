package cjson

import (
	"strconv"
	"strings"

	"annals/api"
)

const (
	wordDigits = 19            // digits of the greatest integer
	farDigits  = 9             // digits of an exponent that is taken exactly
	far        = 1_000_000_000 // stands for every exponent with more: no text has the digits to make up for it
)

func digit(c byte) bool { return '0' <= c && c <= '9' }

// number reads a number, which has to be an integer.
func (r *reader) number() int {
	from := r.at
	sign := r.sign("-")
	ahead := "0"
	if !r.takes('0') {
		ahead = r.digits()
	}
	behind := ""
	if r.takes('.') {
		behind = r.digits()
	}
	tens := 0
	if r.takes('e') || r.takes('E') {
		tens = r.exponent()
	}
	// The point goes behind the last digit, so that what is left is an integer times a power of ten.
	n, e := integer(sign, ahead+behind, tens-len(behind))
	if e != api.OK {
		panic(fault{e, from})
	}
	return n
}

// sign goes over one of the signs that may stand there, or none.
func (r *reader) sign(signs string) string {
	for i := range len(signs) {
		if r.takes(signs[i]) {
			return signs[i : i+1]
		}
	}
	return ""
}

// digits reads one or more digits.
func (r *reader) digits() string {
	from := r.at
	if !digit(r.peek()) {
		panic(fault{api.ErrByte, from})
	}
	for r.at < len(r.s) && digit(r.s[r.at]) {
		r.at++
	}
	return r.s[from:r.at]
}

// exponent reads what stands behind an e.
func (r *reader) exponent() int {
	minus := r.sign("+-") == "-"
	n := distance(strings.TrimLeft(r.digits(), "0"))
	if minus {
		return -n
	}
	return n
}

// distance is an exponent's digits as a number.
func distance(digits string) int {
	if len(digits) > farDigits {
		return far
	}
	n := 0
	for i := range len(digits) {
		n = 10*n + int(digits[i]-'0')
	}
	return n
}

// integer is what digits, times so many tens, stand for.
func integer(sign, digits string, tens int) (int, api.Errno) {
	digits = strings.TrimLeft(digits, "0")
	if digits == "" {
		return 0, api.OK
	}
	bare := strings.TrimRight(digits, "0")
	tens += len(digits) - len(bare)
	if tens < 0 {
		return 0, api.ErrInteger
	}
	if len(bare)+tens > wordDigits {
		return 0, api.ErrRange
	}
	n, err := strconv.ParseInt(sign+bare+strings.Repeat("0", tens), 10, 64)
	if err != nil {
		return 0, api.ErrRange
	}
	return int(n), api.OK
}
