package cjson_test

import (
	"fmt"
	"math/big"
	"math/rand"
	"slices"
	"sort"
	"strconv"
	"strings"

	"annals/api"
)

// A second reading of the chapter: a machine without calls of itself, which is fed a text byte by byte and holds what is open in a stack.

type state int

const (
	wantValue  state = iota // a value has to come
	wantFirst               // a value, or the end of an array
	wantName                // a member's name has to come
	wantMember              // a name, or the end of an object
	wantColon
	behindValue
	inWord
	inNumber
	inString
)

// The parts of a number, each behind which others may come.
const (
	minus = iota
	zero
	digits
	point
	places
	letter
	signed
	tens
)

type machine struct {
	b      []byte
	at     int
	state  state
	open   []api.Value // arrays and objects that are not closed yet
	names  []string    // of the members that are not whole yet
	done   api.Value
	word   string
	from   int // of the number or the string
	part   int // of the number
	named  bool
	out    []rune
	slash  int  // of the escape, -1 if there is none
	half   rune // the first half, 0 if there is none
	code   string
	whyNot api.Errno
	where  int
}

func (m *machine) refuse(e api.Errno, at int) {
	if m.whyNot == api.OK {
		m.whyNot, m.where = e, at
	}
}

// second reads a text as Loose should.
func second(b []byte) (api.Value, api.Errno, int) {
	if len(b) > api.MaxJSON {
		return api.Value{}, api.ErrLong, api.MaxJSON
	}
	m := &machine{b: b, slash: -1}
	for m.at < len(b) && m.whyNot == api.OK {
		m.feed(b[m.at])
	}
	if m.whyNot == api.OK && m.state == inNumber {
		m.endNumber()
	}
	if m.whyNot == api.OK && (m.state != behindValue || len(m.open) > 0) {
		m.refuse(api.ErrEnd, len(b))
	}
	if m.whyNot != api.OK {
		return api.Value{}, m.whyNot, m.where
	}
	return m.done, api.OK, 0
}

func (m *machine) feed(c byte) {
	switch m.state {
	case inWord:
		m.feedWord(c)
	case inNumber:
		m.feedNumber(c)
	case inString:
		m.feedString(c)
	default:
		if strings.IndexByte(" \t\n\r", c) < 0 {
			m.feedSign(c)
		}
		m.at++
	}
}

// feedSign takes a byte between values, or the first one of a value.
func (m *machine) feedSign(c byte) {
	closing := byte(0)
	if n := len(m.open); n > 0 {
		closing = "....]}"[m.open[n-1].Kind]
	}
	switch {
	case m.state == behindValue && closing != 0 && c == ',':
		m.state = wantValue
		if closing == '}' {
			m.state = wantName
		}
	case m.state == behindValue && closing != 0 && c == closing, m.state == wantFirst && c == ']', m.state == wantMember && c == '}':
		v := m.open[len(m.open)-1]
		m.open = m.open[:len(m.open)-1]
		m.put(v)
	case m.state == wantColon && c == ':':
		m.state = wantValue
	case (m.state == wantName || m.state == wantMember) && c == '"':
		m.state, m.named, m.from, m.out = inString, true, m.at, nil
	case m.state == wantValue || m.state == wantFirst:
		m.beginValue(c)
	default:
		m.refuse(api.ErrByte, m.at)
	}
}

func (m *machine) beginValue(c byte) {
	switch {
	case c == 'n' || c == 't' || c == 'f':
		m.state, m.word = inWord, map[byte]string{'n': "null", 't': "true", 'f': "false"}[c]
		m.from = m.at
	case c == '-' || c >= '0' && c <= '9':
		m.state, m.from, m.part = inNumber, m.at, digits
		if c == '-' || c == '0' {
			m.part = map[byte]int{'-': minus, '0': zero}[c]
		}
	case c == '"':
		m.state, m.named, m.from, m.out = inString, false, m.at, nil
	case c == '[' || c == '{':
		if len(m.open) == api.MaxDepth {
			m.refuse(api.ErrDeep, m.at)
			return
		}
		m.open = append(m.open, api.Value{Kind: map[byte]int{'[': api.JList, '{': api.JObject}[c]})
		m.state = map[byte]state{'[': wantFirst, '{': wantMember}[c]
	default:
		m.refuse(api.ErrByte, m.at)
	}
}

// put takes a value that has ended to where it belongs: among its object's members each to its place.
func (m *machine) put(v api.Value) {
	m.state = behindValue
	if len(m.open) == 0 {
		m.done = v
		return
	}
	in := &m.open[len(m.open)-1]
	if in.Kind == api.JList {
		in.Items = append(in.Items, v)
		return
	}
	name := m.names[len(m.names)-1]
	m.names = m.names[:len(m.names)-1]
	at := sort.SearchStrings(in.Names, name)
	in.Names = slices.Insert(in.Names, at, name)
	in.Items = slices.Insert(in.Items, at, v)
}

func (m *machine) feedWord(c byte) {
	if c != m.word[m.at-m.from] {
		m.refuse(api.ErrByte, m.at)
		return
	}
	if m.at++; m.at-m.from == len(m.word) {
		m.put(map[string]api.Value{"null": {}, "true": {Kind: api.JBool, Int: 1}, "false": {Kind: api.JBool}}[m.word])
	}
}

// feedNumber goes on with a number or, if this byte cannot, ends it and leaves the byte to what comes behind.
func (m *machine) feedNumber(c byte) {
	next := -1
	d := c >= '0' && c <= '9'
	switch {
	case m.part == minus && c == '0':
		next = zero
	case (m.part == minus || m.part == digits) && d:
		next = digits
	case (m.part == zero || m.part == digits) && c == '.':
		next = point
	case (m.part == point || m.part == places) && d:
		next = places
	case (m.part == zero || m.part == digits || m.part == places) && (c == 'e' || c == 'E'):
		next = letter
	case m.part == letter && (c == '+' || c == '-'):
		next = signed
	case (m.part == letter || m.part == signed || m.part == tens) && d:
		next = tens
	}
	if next >= 0 {
		m.part = next
		m.at++
		return
	}
	if !m.numberMayEnd() {
		m.refuse(api.ErrByte, m.at)
		return
	}
	m.endNumber()
}

func (m *machine) numberMayEnd() bool {
	return m.part == zero || m.part == digits || m.part == places || m.part == tens
}

func (m *machine) endNumber() {
	if !m.numberMayEnd() {
		return // the text's end
	}
	n, e := worth(string(m.b[m.from:m.at]))
	if e != api.OK {
		m.refuse(e, m.from)
		return
	}
	m.put(api.Value{Kind: api.JInt, Int: n})
}

// worth is what a number of the grammar stands for, by fractions of any size.
func worth(s string) (int, api.Errno) {
	front, power, _ := strings.Cut(strings.ToLower(s), "e")
	far, _ := new(big.Int).SetString("0"+strings.TrimLeft(power, "+-"), 10)
	if strings.HasPrefix(power, "-") {
		far.Neg(far)
	}
	if strings.Trim(front, "-.0") == "" {
		return 0, api.OK
	}
	if far.CmpAbs(big.NewInt(1<<20)) > 0 { // no text of these tests has so many digits
		return 0, []api.Errno{api.ErrInteger, api.OK, api.ErrRange}[far.Sign()+1]
	}
	r, _ := new(big.Rat).SetString(front)
	ten := new(big.Int).Exp(big.NewInt(10), new(big.Int).Abs(far), nil)
	if far.Sign() < 0 {
		r.Quo(r, new(big.Rat).SetInt(ten))
	} else {
		r.Mul(r, new(big.Rat).SetInt(ten))
	}
	if !r.IsInt() {
		return 0, api.ErrInteger
	}
	if !r.Num().IsInt64() {
		return 0, api.ErrRange
	}
	return int(r.Num().Int64()), api.OK
}

func (m *machine) feedString(c byte) {
	switch {
	case m.slash >= 0:
		m.feedEscape(c)
	case m.half != 0 && c != '\\':
		m.refuse(api.ErrBackslash, m.at-len(`\ud800`))
	case c == '\\':
		m.slash, m.code = m.at, ""
		m.at++
	case c == '"':
		m.at++
		m.endString()
	case c < ' ':
		m.refuse(api.ErrByte, m.at)
	default:
		n := sequence(m.b[m.at:])
		if n == 0 {
			m.refuse(api.ErrUTF, m.at)
			return
		}
		m.out = append(m.out, []rune(string(m.b[m.at:m.at+n]))...)
		m.at += n
	}
}

// feedEscape takes a byte behind a backslash; what is wrong behind a first half is told at the half's backslash.
func (m *machine) feedEscape(c byte) {
	told := m.slash
	if m.half != 0 {
		told -= len(`\ud800`)
	}
	m.code += string(rune(c))
	m.at++
	switch {
	case len(m.code) == 1 && c != 'u' || c >= 0x80:
		to, is := map[byte]rune{'"': '"', '\\': '\\', '/': '/', 'b': 8, 'f': 12, 'n': 10, 'r': 13, 't': 9}[c]
		if !is || m.half != 0 || len(m.code) != 1 {
			m.refuse(api.ErrBackslash, told)
			return
		}
		m.out, m.slash = append(m.out, to), -1
	case len(m.code) > 1 && !strings.ContainsRune("0123456789abcdefABCDEF", rune(c)):
		m.refuse(api.ErrBackslash, told)
	case len(m.code) == 5:
		n, _ := strconv.ParseUint(m.code[1:], 16, 16)
		m.unit(rune(n), told)
		m.slash = -1
	}
}

func (m *machine) unit(u rune, told int) {
	first, later := u>>10 == 0xd800>>10, u>>10 == 0xdc00>>10
	switch {
	case m.half != 0 != later:
		m.refuse(api.ErrBackslash, told)
	case first:
		m.half = u
	case later:
		m.out, m.half = append(m.out, 0x10000+(m.half&0x3ff)*0x400+u&0x3ff), 0
	default:
		m.out = append(m.out, u)
	}
}

func (m *machine) endString() {
	s := string(m.out)
	if !m.named {
		m.put(api.Value{Kind: api.JText, Text: s})
		return
	}
	if slices.Contains(m.open[len(m.open)-1].Names, s) {
		m.refuse(api.ErrMember, m.from)
		return
	}
	m.names = append(m.names, s)
	m.state = wantColon
}

// sequence is how long the sequence of UTF-8 is with which bytes begin, 0 if they begin with none: the published table of well-formed ones.
func sequence(b []byte) int {
	rows := [][]byte{ // from and to of each byte
		{0x00, 0x7f}, {0xc2, 0xdf, 0x80, 0xbf}, {0xe0, 0xe0, 0xa0, 0xbf, 0x80, 0xbf}, {0xe1, 0xec, 0x80, 0xbf, 0x80, 0xbf}, {0xed, 0xed, 0x80, 0x9f, 0x80, 0xbf}, {0xee, 0xef, 0x80, 0xbf, 0x80, 0xbf},
		{0xf0, 0xf0, 0x90, 0xbf, 0x80, 0xbf, 0x80, 0xbf}, {0xf1, 0xf3, 0x80, 0xbf, 0x80, 0xbf, 0x80, 0xbf}, {0xf4, 0xf4, 0x80, 0x8f, 0x80, 0xbf, 0x80, 0xbf},
	}
	for _, row := range rows {
		n := len(row) / 2
		fits := len(b) >= n
		for i := 0; fits && i < n; i++ {
			fits = row[2*i] <= b[i] && b[i] <= row[2*i+1]
		}
		if fits {
			return n
		}
	}
	return 0
}

// utf tells whether a string is UTF-8, by the same table.
func utf(s string) bool {
	for s != "" {
		n := sequence([]byte(s))
		if n == 0 {
			return false
		}
		s = s[n:]
	}
	return true
}

// escapes is what stands in a string in the place of a byte.
func escapes() *strings.Replacer {
	pairs := []string{`"`, `\"`, `\`, `\\`, "\b", `\b`, "\t", `\t`, "\n", `\n`, "\f", `\f`, "\r", `\r`}
	for c := range 32 {
		if !slices.Contains(pairs, string(rune(c))) {
			pairs = append(pairs, string(rune(c)), fmt.Sprintf(`\u%04x`, c))
		}
	}
	return strings.NewReplacer(pairs...)
}

// spelt is a sound value's canonical text.
func spelt(v api.Value, r *strings.Replacer) string {
	var parts []string
	switch v.Kind {
	case api.JBool:
		return fmt.Sprint(v.Int == 1)
	case api.JInt:
		return fmt.Sprint(v.Int)
	case api.JText:
		return `"` + r.Replace(v.Text) + `"`
	case api.JList:
		for _, item := range v.Items {
			parts = append(parts, spelt(item, r))
		}
		return "[" + strings.Join(parts, ",") + "]"
	case api.JObject:
		by := map[string]string{}
		for i, name := range v.Names {
			by[name] = spelt(text(name), r) + ":" + spelt(v.Items[i], r)
		}
		names := slices.Clone(v.Names)
		sort.Strings(names)
		for _, name := range names {
			parts = append(parts, by[name])
		}
		return "{" + strings.Join(parts, ",") + "}"
	}
	return "null"
}

// faults is all errors of a value, in the order in which the chapter goes through it; of what is too deep no more than that.
func faults(v api.Value, deep int) []api.Errno {
	fields := map[int]string{api.JNull: "", api.JBool: "I", api.JInt: "I", api.JText: "T", api.JList: "L", api.JObject: "NL"}
	may, is := fields[v.Kind]
	has := func(field string, there bool) bool { return there && !strings.Contains(may, field) }
	if !is || has("I", v.Int != 0) || has("T", v.Text != "") || has("N", len(v.Names) > 0) || has("L", len(v.Items) > 0) ||
		v.Kind == api.JBool && uint(v.Int) > 1 || v.Kind == api.JObject && len(v.Names) != len(v.Items) {
		return []api.Errno{api.ErrValue}
	}
	if (v.Kind == api.JList || v.Kind == api.JObject) && deep == api.MaxDepth {
		return []api.Errno{api.ErrDeep}
	}
	var out []api.Errno
	if !utf(v.Text) {
		out = append(out, api.ErrUTF)
	}
	for i, name := range v.Names {
		if !utf(name) {
			out = append(out, api.ErrUTF)
		}
		if slices.Contains(v.Names[:i], name) {
			out = append(out, api.ErrMember)
		}
	}
	for _, item := range v.Items {
		out = append(out, faults(item, deep+1)...)
	}
	return out
}

// inOrder is a value whose objects are in order.
func inOrder(v api.Value) api.Value {
	out := api.Value{Kind: v.Kind, Int: v.Int, Text: v.Text, Items: make([]api.Value, len(v.Items))}
	out.Names = append(out.Names, v.Names...)
	sort.Strings(out.Names)
	for i, item := range v.Items {
		at := i
		if v.Kind == api.JObject {
			at = sort.SearchStrings(out.Names, v.Names[i])
		}
		out.Items[at] = inOrder(item)
	}
	return out
}

func pick[T any](rnd *rand.Rand, list ...T) T { return list[rnd.Intn(len(list))] }

// anyText is a string of runes of all lengths.
func anyText(rnd *rand.Rand) string {
	var out []rune
	for range rnd.Intn(6) {
		out = append(out, pick(rnd, 'a', 'b', '"', '\\', '/', '\n', 0, 0x1f, ' ', 0x7f, 0xe9, 0x7ff, 0x800, 0xd7ff, 0xe000, 0xfffd, 0xffff, 0x10000, 0x1f600, 0x10ffff, rune(rnd.Intn(128))))
	}
	return string(out)
}

func anyInt(rnd *rand.Rand) int {
	switch rnd.Intn(4) {
	case 0:
		return pick(rnd, 0, 1, -1, 10, -100, 1<<63-1, -1<<63, 1<<53+1)
	case 1:
		return rnd.Intn(2000) - 1000
	case 2:
		return (rnd.Intn(18) - 9) * pick(rnd, 1, 1000, 1_000_000, 1_000_000_000_000_000_000)
	}
	return int(rnd.Uint64()) >> rnd.Intn(64)
}

// anyValue is a sound value, with at most so many arrays and objects in one another; its objects are in any order.
func anyValue(rnd *rand.Rand, deep int) api.Value {
	kind := rnd.Intn(8)
	if deep == 0 {
		kind = rnd.Intn(4)
	}
	switch kind {
	case 0:
		return null
	case 1:
		return flag(rnd.Intn(2))
	case 2:
		return num(anyInt(rnd))
	case 3:
		return text(anyText(rnd))
	}
	v := api.Value{Kind: api.JList + kind%2}
	for range rnd.Intn(5) {
		name := anyText(rnd)
		if v.Kind == api.JObject && !slices.Contains(v.Names, name) {
			v.Names = append(v.Names, name)
		}
		if v.Kind == api.JList || len(v.Names) > len(v.Items) {
			v.Items = append(v.Items, anyValue(rnd, deep-1))
		}
	}
	return v
}

// spoiled is a value of which something somewhere is changed, mostly for the worse.
func spoiled(rnd *rand.Rand, v api.Value) api.Value {
	if len(v.Items) > 0 && rnd.Intn(3) > 0 {
		v.Items = slices.Clone(v.Items)
		i := rnd.Intn(len(v.Items))
		v.Items[i] = spoiled(rnd, v.Items[i])
		return v
	}
	switch rnd.Intn(8) {
	case 0:
		v.Kind = rnd.Intn(9) - 1
	case 1:
		v.Int += pick(rnd, 1, -1, 2)
	case 2:
		v.Text += pick(rnd, "x", "\xff", "\xed\xa0\x80", "\xc3")
	case 3:
		v.Names = append(slices.Clone(v.Names), pick(rnd, "a", "", "\xff"))
	case 4:
		v.Items = append(slices.Clone(v.Items), anyValue(rnd, 1))
	case 5:
		v.Names = append(slices.Clone(v.Names), pick(rnd, append([]string{"\xc0\x80"}, v.Names...)...))
		v.Items = append(slices.Clone(v.Items), null)
	case 6:
		v = wrapped(rnd.Intn(17), v)
	case 7:
		v = list(v, spoiled(rnd, null))
	}
	return v
}
