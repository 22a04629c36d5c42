package cjson

import (
	"slices"
	"strings"

	"annals/api"
)

// fault is what the reader gives up with, however deep it is: it is thrown where it is found, and caught at the face.
type fault struct {
	why api.Errno
	at  int
}

type reader struct {
	s  string
	at int
}

// read reads a text whole, or throws its fault.
func read(s string) api.Value {
	r := reader{s: s}
	v := r.value(0)
	r.blanks()
	if r.at < len(s) {
		panic(fault{api.ErrByte, r.at})
	}
	return v
}

// peek is the byte that comes next; one has to come.
func (r *reader) peek() byte {
	if r.at == len(r.s) {
		panic(fault{api.ErrEnd, r.at})
	}
	return r.s[r.at]
}

// takes goes over a byte, if it comes next.
func (r *reader) takes(c byte) bool {
	if r.at == len(r.s) || r.s[r.at] != c {
		return false
	}
	r.at++
	return true
}

// expect goes over a byte that has to come next.
func (r *reader) expect(c byte) {
	if r.peek() != c {
		panic(fault{api.ErrByte, r.at})
	}
	r.at++
}

func (r *reader) blanks() {
	for r.takes(' ') || r.takes('\t') || r.takes('\n') || r.takes('\r') {
	}
}

// value reads a value, and the blanks ahead of it, that lies in so many arrays and objects.
func (r *reader) value(around int) api.Value {
	r.blanks()
	switch c := r.peek(); c {
	case 'n':
		r.word("null")
		return api.Value{}
	case 'f':
		r.word("false")
		return api.Value{Kind: api.JBool}
	case 't':
		r.word("true")
		return api.Value{Kind: api.JBool, Int: 1}
	case '"':
		return api.Value{Kind: api.JText, Text: r.text()}
	case '[':
		return r.list(around + 1)
	case '{':
		return r.object(around + 1)
	default:
		if c != '-' && !digit(c) {
			panic(fault{api.ErrByte, r.at})
		}
		return api.Value{Kind: api.JInt, Int: r.number()}
	}
}

func (r *reader) word(w string) {
	for i := range len(w) {
		r.expect(w[i])
	}
}

// list reads an array that is so many deep.
func (r *reader) list(deep int) api.Value {
	r.open(deep)
	v := api.Value{Kind: api.JList}
	for more := !r.empty(']'); more; more = r.more(']') {
		v.Items = append(v.Items, r.value(deep))
	}
	return v
}

// open goes over a bracket or a brace.
func (r *reader) open(deep int) {
	if deep > api.MaxDepth {
		panic(fault{api.ErrDeep, r.at})
	}
	r.at++
}

// empty tells whether nothing but blanks stands ahead of the closing byte, and goes over it then.
func (r *reader) empty(closing byte) bool {
	r.blanks()
	return r.takes(closing)
}

// more goes over what stands behind an item, and tells whether another has to come.
func (r *reader) more(closing byte) bool {
	r.blanks()
	if r.takes(',') {
		return true
	}
	r.expect(closing)
	return false
}

type member struct {
	name string
	item api.Value
}

// object reads an object that is so many deep.
func (r *reader) object(deep int) api.Value {
	r.open(deep)
	var members []member
	seen := map[string]struct{}{}
	for more := !r.empty('}'); more; more = r.more('}') {
		name := r.name(seen)
		seen[name] = struct{}{}
		r.blanks()
		r.expect(':')
		members = append(members, member{name, r.value(deep)})
	}
	return ordered(members)
}

// name reads a member's name, and the blanks ahead of it, that is none of those.
func (r *reader) name(seen map[string]struct{}) string {
	r.blanks()
	at := r.at
	if r.peek() != '"' {
		panic(fault{api.ErrByte, at})
	}
	name := r.text()
	if _, again := seen[name]; again {
		panic(fault{api.ErrMember, at})
	}
	return name
}

// ordered is the object of members, which it puts in order.
func ordered(members []member) api.Value {
	slices.SortFunc(members, func(a, b member) int { return strings.Compare(a.name, b.name) })
	names := make([]string, len(members))
	items := make([]api.Value, len(members))
	for i, m := range members {
		names[i], items[i] = m.name, m.item
	}
	return api.Value{Kind: api.JObject, Names: names, Items: items}
}
