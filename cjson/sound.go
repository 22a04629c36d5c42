package cjson

import (
	"strings"
	"unicode/utf8"

	"annals/api"
)

// sound is the first error of a value that lies in so many arrays and objects, and of all that is within it.
func sound(v api.Value, around int) api.Errno {
	if !formed(v) {
		return api.ErrValue
	}
	if nests(v) && around >= api.MaxDepth {
		return api.ErrDeep
	}
	if !whole(v.Text) {
		return api.ErrUTF
	}
	if e := distinct(v.Names); e != api.OK {
		return e
	}
	for _, item := range v.Items {
		if e := sound(item, around+1); e != api.OK {
			return e
		}
	}
	return api.OK
}

func nests(v api.Value) bool { return v.Kind == api.JList || v.Kind == api.JObject }

// formed tells whether a value's own fields are those of its Kind.
func formed(v api.Value) bool {
	if v.Kind < api.JNull || v.Kind > api.JObject {
		return false
	}
	if v.Kind == api.JBool && v.Int != 0 && v.Int != 1 {
		return false
	}
	if v.Int != 0 && v.Kind != api.JBool && v.Kind != api.JInt {
		return false
	}
	if v.Text != "" && v.Kind != api.JText {
		return false
	}
	if len(v.Items) != 0 && !nests(v) {
		return false
	}
	if v.Kind == api.JObject {
		return len(v.Names) == len(v.Items)
	}
	return len(v.Names) == 0
}

// distinct goes through an object's names in the order in which they stand.
func distinct(names []string) api.Errno {
	seen := make(map[string]struct{}, len(names))
	for _, name := range names {
		if !whole(name) {
			return api.ErrUTF
		}
		if _, again := seen[name]; again {
			return api.ErrMember
		}
		seen[name] = struct{}{}
	}
	return api.OK
}

// whole tells whether a string is UTF-8 from end to end.
func whole(s string) bool {
	for i, r := range s {
		if stray(s, i, r) {
			return false
		}
	}
	return true
}

// stray tells whether the rune r that a range over s gives at a place is none: a range gives the same rune for a byte that is no UTF-8 and for the replacement character itself.
func stray(s string, at int, r rune) bool {
	return r == utf8.RuneError && !strings.HasPrefix(s[at:], string(utf8.RuneError))
}
