package text

import (
	"strconv"
	"strings"
	"unicode/utf8"

	"annals/api"
)

const (
	hexDigits  = "0123456789abcdef"
	byteEscape = `\x`
	runeEscape = `\u{`
	mostDigits = 6 // hexadecimal digits of a rune's number
	hexBits    = 4
	hexMask    = 1<<4 - 1
)

// hiddens are the runes that show nothing, or change how others show: in a literal they are told by their numbers.
var hiddens = [...]span{
	{0x80, 0x9F}, {0xAD, 0xAD}, {0x200B, 0x200F}, {0x2028, 0x202E},
	{0x2060, 0x2064}, {0xFEFF, 0xFEFF}, {0xFFF9, 0xFFFB}, {0xE0001, 0xE007F},
}

func hidden(r rune) bool {
	for _, s := range hiddens {
		if s.has(r) {
			return true
		}
	}
	return false
}

func control(r rune) bool { return r < 0x20 || r == 0x7F }

// Quote writes any bytes as a literal.
func Quote(s string) string {
	out := make([]byte, 0, len(s)+2)
	out = append(out, '"')
	for i, r := range s {
		if stray(s, i, r) {
			out = append(out, hexByte(s[i])...)
		} else {
			out = append(out, written(r)...)
		}
	}
	return string(append(out, '"'))
}

// written is how a rune stands in a literal.
func written(r rune) string {
	switch {
	case r == '"' || r == '\\':
		return `\` + string(r)
	case r == '\n':
		return `\n`
	case r == '\t':
		return `\t`
	case r == '\r':
		return `\r`
	case control(r):
		return hexByte(byte(r))
	case hidden(r):
		return runeEscape + strconv.FormatInt(int64(r), 16) + "}"
	}
	return string(r)
}

func hexByte(c byte) string {
	return byteEscape + string([]byte{hexDigits[c>>hexBits], hexDigits[c&hexMask]})
}

// Unquote reads the literal that stands at at, and tells where it ends.
func Unquote(s string, at int) (string, int, api.Errno) {
	if at < 0 || at > len(s) {
		return "", 0, api.ErrArg
	}
	if at == len(s) || s[at] != '"' {
		return "", 0, api.ErrQuote
	}
	from := at + 1
	text, n, e := content(s[from:])
	if e != api.OK {
		return "", 0, e
	}
	end := from + n
	// A text has one literal alone: whatever else can be read as it is refused.
	if Quote(text) != s[at:end] {
		return "", 0, api.ErrCanon
	}
	return text, end, api.OK
}

// content reads what stands behind an opening quote: its text, and the place behind the closing one.
func content(s string) (string, int, api.Errno) {
	var text []byte
	end := 0 // of the escape that was read last
	for i, r := range s {
		if i < end {
			continue
		}
		switch {
		case r == '"':
			return string(text), i + 1, api.OK
		case r == '\\':
			what, n := escape(s[i:])
			if n == 0 {
				return "", 0, api.ErrEscape
			}
			text = append(text, what...)
			end = i + n
		case control(r) || hidden(r) || stray(s, i, r):
			return "", 0, api.ErrRaw
		default:
			text = utf8.AppendRune(text, r)
		}
	}
	return "", 0, api.ErrOpen
}

// escape reads the escape with which s begins: what it stands for, and its length, 0 if it is none.
func escape(s string) (string, int) {
	switch {
	case strings.HasPrefix(s, byteEscape):
		return escapedByte(s)
	case strings.HasPrefix(s, runeEscape):
		return escapedRune(s)
	case strings.HasPrefix(s, `\"`):
		return `"`, 2
	case strings.HasPrefix(s, `\\`):
		return `\`, 2
	case strings.HasPrefix(s, `\n`):
		return "\n", 2
	case strings.HasPrefix(s, `\t`):
		return "\t", 2
	case strings.HasPrefix(s, `\r`):
		return "\r", 2
	}
	return "", 0
}

// escapedByte reads two hexadecimal digits; below 80 the byte is the rune's encoding too.
func escapedByte(s string) (string, int) {
	const whole = len(byteEscape) + 2
	if len(s) < whole {
		return "", 0
	}
	high := strings.IndexByte(hexDigits, s[whole-2])
	low := strings.IndexByte(hexDigits, s[whole-1])
	if high < 0 || low < 0 {
		return "", 0
	}
	return string([]byte{byte(high<<hexBits | low)}), whole
}

// escapedRune reads a rune's number and the brace behind it.
func escapedRune(s string) (string, int) {
	var v rune
	for i, r := range s[len(runeEscape):] {
		if r == '}' && i > 0 && utf8.ValidRune(v) {
			return string(v), len(runeEscape) + i + 1
		}
		d := strings.IndexRune(hexDigits, r)
		if d < 0 || i == mostDigits {
			return "", 0
		}
		v = v<<hexBits | rune(d)
	}
	return "", 0
}
