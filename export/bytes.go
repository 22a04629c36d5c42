package export

import (
	"strings"
	"unicode/utf8"

	"annals/api"
)

const (
	rawName   = "raw"
	hexDigits = "0123456789abcdef"
	hexBase   = len(hexDigits)
)

// tellBytes is the value that tells a byte string: a string, or raw bytes where no string can hold them.
func tellBytes(b []byte) api.Value {
	if utf8.Valid(b) {
		return textOf(string(b))
	}
	return api.Value{Kind: api.JObject, Names: []string{rawName}, Items: []api.Value{textOf(toHex(b))}}
}

// readBytes is the byte string that a value tells.
func readBytes(v api.Value) ([]byte, api.Errno) {
	if v.Kind == api.JText {
		return []byte(v.Text), api.OK
	}
	if v.Kind != api.JObject || len(v.Names) != 1 || v.Names[0] != rawName || v.Items[0].Kind != api.JText {
		return nil, api.ErrShape
	}
	b, pairs := fromHex(v.Items[0].Text)
	if !pairs || utf8.Valid(b) {
		return nil, api.ErrHex
	}
	return b, api.OK
}

func toHex(b []byte) string {
	var out strings.Builder
	out.Grow(2 * len(b))
	for _, c := range b {
		out.WriteByte(hexDigits[int(c)/hexBase])
		out.WriteByte(hexDigits[int(c)%hexBase])
	}
	return out.String()
}

// fromHex is the bytes that pairs of digits stand for, and whether a text is just such pairs.
func fromHex(s string) ([]byte, bool) {
	if len(s)%2 != 0 {
		return nil, false
	}
	out := make([]byte, 0, len(s)/2)
	for i := 0; i < len(s); i += 2 {
		high, low := strings.IndexByte(hexDigits, s[i]), strings.IndexByte(hexDigits, s[i+1])
		if high < 0 || low < 0 {
			return nil, false
		}
		out = append(out, byte(high*hexBase+low))
	}
	return out, true
}
