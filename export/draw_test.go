package export_test

import (
	"cmp"
	"math"
	"math/rand"
	"slices"
	"strings"

	"annals/api"
	"annals/cjson"
	"annals/lift"
	"annals/record"
	"annals/saga"
)

// pick is one of several.
func pick[T any](rnd *rand.Rand, list ...T) T { return list[rnd.Intn(len(list))] }

// anyBytes is a byte string, often one that some way of writing it could get wrong.
func anyBytes(rnd *rand.Rand) []byte {
	if rnd.Intn(3) > 0 {
		return []byte(pick(rnd, "", "", "x", "\"\\/", "\x00\x1f\x7f", "\b\t\n\v\f\r", "\u00fc\u2028\uffff", "\U0010ffff", "\ufffd", "raw", `{"raw":"ff"}`, "ff", "\xff", "\x80a", "a\xc3", "\xed\xa0\x80", "\xc0\x80", "\xf4\x90\x80\x80", "\u00fc\xe2\x82"))
	}
	b := make([]byte, rnd.Intn(12))
	rnd.Read(b)
	return b
}

func anyName(rnd *rand.Rand) string {
	return pick(rnd, "a", "buy", "b\u00fccher-2", "Z", strings.Repeat("\U00010400", api.MaxName))
}

func anyTime(rnd *rand.Rand) int { return pick(rnd, 0, 0, 1, rnd.Intn(1000), math.MaxInt) }

// anyRecord is a valid record of any kind and version.
func anyRecord(rnd *rand.Rand) api.Record {
	for {
		r := api.Record{V: 1 + rnd.Intn(3), Kind: 1 + rnd.Intn(7), Saga: pick(rnd, 1, 1+rnd.Intn(300), math.MaxInt)}
		for _, tag := range record.Fields(r.V, r.Kind) {
			fill(rnd, &r, tag)
		}
		if r.V == 1 && r.Kind == api.KBegin {
			r.Step, r.Data = 1+rnd.Intn(32), []byte(anyName(rnd))
		}
		if record.Check(r) == api.OK {
			return r
		}
	}
}

// fill draws the field of a tag.
func fill(rnd *rand.Rand, r *api.Record, tag int) {
	switch tag {
	case 3:
		r.Step = pick(rnd, 0, rnd.Intn(32))
	case 4:
		r.Try = pick(rnd, 1, 1+rnd.Intn(1000))
	case 5:
		r.At = anyTime(rnd)
	case 6:
		r.Last = rnd.Intn(2)
	case 7:
		r.Code = pick(rnd, 0, 1, 2, -1, math.MinInt, math.MaxInt)
	case 8:
		r.Count = 1 + rnd.Intn(32)
	case 9:
		r.Pivot = rnd.Intn(r.Count + 1)
	case 10:
		r.Name = anyName(rnd)
	case 11:
		r.Data = anyBytes(rnd)
	}
}

func anyRecords(rnd *rand.Rand) []api.Record {
	var out []api.Record
	for range rnd.Intn(6) {
		out = append(out, anyRecord(rnd))
	}
	return out
}

// older is a record as one of any version that can say it.
func older(rnd *rand.Rand, r api.Record) api.Record {
	least, _ := lift.Least(r)
	out, _ := lift.Down(r, least+rnd.Intn(4-least))
	return out
}

func begin(rnd *rand.Rand, id int) api.Record {
	r := api.Record{V: 3, Kind: api.KBegin, Saga: id, At: anyTime(rnd), Count: pick(rnd, 1, 2, 3, 5, 32), Name: anyName(rnd), Data: anyBytes(rnd)}
	r.Pivot = pick(rnd, 0, rnd.Intn(r.Count+1))
	return older(rnd, r)
}

// follow is a record that may come next in a saga that has not ended.
func follow(rnd *rand.Rand, s api.Saga) api.Record {
	r := api.Record{V: 3, Kind: pick(rnd, saga.Allowed(s)...), Saga: s.ID, At: anyTime(rnd), Step: s.Next}
	if s.Phase == api.Undoing {
		r.Step--
	}
	switch r.Kind {
	case api.KStart, api.KUndo:
		r.Try = min(s.Tries+1, api.MaxTry)
	case api.KDone, api.KUndone:
		r.Data = anyBytes(rnd)
	case api.KFail:
		r.Data, r.Code = anyBytes(rnd), pick(rnd, 0, -3, math.MinInt, math.MaxInt)
		if s.Phase == api.Running && (s.Pivot == 0 || r.Step < s.Pivot) {
			r.Last = rnd.Intn(2)
		}
	case api.KEnd:
		r.Step, r.Code = 0, pick(rnd, 0, s.Phase)
	}
	return older(rnd, r)
}

// A log is legal records, and the sagas to which they lead, in no order.
type log struct {
	recs  []api.Record
	sagas []api.Saga
}

// grow puts n further records behind a log, or some less.
func (l *log) grow(rnd *rand.Rand, n int, ids ...int) {
	for range n {
		id := pick(rnd, ids...)
		at := slices.IndexFunc(l.sagas, func(s api.Saga) bool { return s.ID == id })
		if at < 0 {
			r := begin(rnd, id)
			s, _ := saga.Begin(r)
			l.recs, l.sagas = append(l.recs, r), append(l.sagas, s)
		} else if !saga.Finished(l.sagas[at]) {
			r := follow(rnd, l.sagas[at])
			l.recs = append(l.recs, r)
			l.sagas[at], _ = saga.Apply(l.sagas[at], r)
		}
	}
}

// anyState is a state that may be told, of sagas that records lead to.
func anyState(rnd *rand.Rand) api.State {
	var l log
	l.grow(rnd, rnd.Intn(60), 1, 2, 7, 300, math.MaxInt)
	slices.SortFunc(l.sagas, func(a, b api.Saga) int { return cmp.Compare(a.ID, b.ID) })
	return api.State{Count: pick(rnd, len(l.sagas), len(l.recs), math.MaxInt), Sagas: l.sagas}
}

// oddTexts are the texts of what is put in the place of something in a value.
var oddTexts = []string{
	`null`, `true`, `false`, `0`, `1`, `-1`, `2`, `33`, `9223372036854775807`, `-9223372036854775808`, `""`, `"x"`, `"running"`, `"undoing"`, `"whole"`, `"undone"`, `"begin"`, `"done"`, `"end"`, `"2b"`, `"ff"`,
	`[]`, `[""]`, `[0]`, `[[]]`, `["",{"raw":"ff"}]`, `["",{"raw":"61"}]`, `{}`, `{"raw":"ff"}`, `{"raw":"61"}`, `{"raw":"FF"}`, `{"raw":"f"}`, `{"raw":""}`, `{"raw":0}`, `{"raw":"ff","x":""}`, `{"x":"ff"}`,
	text0, textBack, `{"kind":"end","saga":1,"v":3}`, `{"kind":"end","saga":1,"step":0,"v":3}`,
}

// parsed is the value of a canonical text.
func parsed(s string) api.Value {
	v, _, _ := cjson.Parse([]byte(s))
	return v
}

// oddNames are what members are named that do not belong.
var oddNames = []string{"", "a", "at", "atx", "count", "data", "fail", "kind", "name", "raw", "saga", "step", "v", "w", "~", "\u00fc"}

// places calls f with each value within a value, itself too.
func places(v *api.Value, f func(v *api.Value)) {
	f(v)
	for i := range v.Items {
		places(&v.Items[i], f)
	}
}

// meddle changes something at one place of a value.
func meddle(rnd *rand.Rand, v *api.Value) {
	var all []*api.Value
	places(v, func(p *api.Value) { all = append(all, p) })
	p := pick(rnd, all...)
	switch how := rnd.Intn(5); {
	case how == 0 && p.Kind == api.JObject:
		p.Names, p.Items = append(p.Names, pick(rnd, oddNames...)), append(p.Items, parsed(pick(rnd, oddTexts...)))
	case how == 1 && len(p.Names) > 0:
		p.Names[rnd.Intn(len(p.Names))] = pick(rnd, oddNames...)
	case how == 2 && len(p.Items) > 0:
		at := rnd.Intn(len(p.Items))
		p.Items = slices.Delete(p.Items, at, at+1)
		if len(p.Names) > 0 {
			p.Names = slices.Delete(p.Names, at, at+1)
		}
	case how == 3 && len(p.Items) > 1 && p.Kind == api.JList:
		a, b := rnd.Intn(len(p.Items)), rnd.Intn(len(p.Items))
		p.Items[a], p.Items[b] = p.Items[b], p.Items[a]
	case how == 4 && p.Kind == api.JInt:
		p.Int += pick(rnd, -1, 1)
	default:
		*p = parsed(pick(rnd, oddTexts...))
	}
}
