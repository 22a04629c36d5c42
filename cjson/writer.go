package cjson

import (
	"slices"
	"strconv"
	"strings"

	"annals/api"
)

const (
	hexDigits = "0123456789abcdef"
	hexBits   = 4
	hexMask   = 1<<hexBits - 1
)

type writer struct {
	out []byte
}

// written is a sound value's canonical text; of one that is longer than MaxJSON a beginning that is longer too, so that no more is built of it than it takes to tell.
func written(v api.Value) []byte {
	var w writer
	w.value(v)
	return w.out
}

// full tells whether the text is too long whatever comes behind.
func (w *writer) full() bool { return len(w.out) > api.MaxJSON }

func (w *writer) put(s string) { w.out = append(w.out, s...) }

func (w *writer) value(v api.Value) {
	switch v.Kind {
	case api.JBool:
		w.put(strconv.FormatBool(v.Int == 1))
	case api.JInt:
		w.out = strconv.AppendInt(w.out, int64(v.Int), 10)
	case api.JText:
		w.text(v.Text)
	case api.JList:
		w.list(v.Items)
	case api.JObject:
		w.object(v.Names, v.Items)
	default:
		w.put("null")
	}
}

func (w *writer) list(items []api.Value) {
	w.put("[")
	for i, item := range items {
		if w.full() {
			return
		}
		w.comma(i)
		w.value(item)
	}
	w.put("]")
}

func (w *writer) object(names []string, items []api.Value) {
	w.put("{")
	for i, place := range order(names) {
		if w.full() {
			return
		}
		w.comma(i)
		w.text(names[place])
		w.put(":")
		w.value(items[place])
	}
	w.put("}")
}

// comma stands between one item and the next: ahead of all but the first.
func (w *writer) comma(i int) {
	if i > 0 {
		w.put(",")
	}
}

// order is the places of names, by rising name.
func order(names []string) []int {
	places := make([]int, len(names))
	for i := range places {
		places[i] = i
	}
	slices.SortFunc(places, func(a, b int) int { return strings.Compare(names[a], names[b]) })
	return places
}

func (w *writer) text(s string) {
	w.put(`"`)
	for !w.full() {
		n := plain(s)
		w.put(s[:n])
		if n == len(s) {
			break
		}
		w.escape(s[n])
		s = s[n+1:]
	}
	w.put(`"`)
}

// escape writes what stands in a string in the place of a byte.
func (w *writer) escape(c byte) {
	switch c {
	case '"', '\\':
		w.out = append(w.out, '\\', c)
	case '\b':
		w.put(`\b`)
	case '\t':
		w.put(`\t`)
	case '\n':
		w.put(`\n`)
	case '\f':
		w.put(`\f`)
	case '\r':
		w.put(`\r`)
	default:
		w.out = append(w.out, '\\', 'u', '0', '0', hexDigits[c>>hexBits], hexDigits[c&hexMask])
	}
}
