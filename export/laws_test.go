package export_test

import (
	"math"
	"math/rand"
	"slices"
	"testing"

	"annals/api"
	"annals/cjson"
	"annals/export"
	"annals/record"
	"annals/replay"
	"annals/saga"
)

// Promises 14.1, 14.2, 14.5 and 14.6: drawn states are told as by the second reading, and read as they were.
func TestStateBackAndForth(t *testing.T) {
	t.Parallel()
	rnd := rand.New(rand.NewSource(1405))
	for range 3000 {
		st := anyState(rnd)
		want := stateText(st)
		b, e := export.State(st)
		if string(b) != want || e != api.OK {
			t.Fatalf("State = %s, %d, not %s", b, e, want)
		}
		if got, e := export.ReadState(b); !same(got, st) || e != api.OK {
			t.Fatalf("ReadState(%s) = %v, %d", b, got, e)
		}
	}
}

// Promises 14.3, 14.4, 14.5 and 14.6: drawn records are told as by the second reading, and read as they were.
func TestRecordsBackAndForth(t *testing.T) {
	t.Parallel()
	rnd := rand.New(rand.NewSource(1406))
	for range 10000 {
		recs := anyRecords(rnd)
		want := recordsText(recs)
		b, e := export.Records(recs...)
		if string(b) != want || e != api.OK {
			t.Fatalf("Records = %s, %d, not %s", b, e, want)
		}
		if got, e := export.ReadRecords(b); !same(got, recs) || e != api.OK {
			t.Fatalf("ReadRecords(%s) = %v, %d", b, got, e)
		}
	}
}

// tally counts answers by their error.
type tally map[api.Errno]int

// holdState holds ReadState of a text against the second reading, and what is read against the text.
func (n tally) holdState(t *testing.T, b []byte) {
	t.Helper()
	want, e := secondReadState(b)
	got, e2 := export.ReadState(b)
	if !same(got, want) || e2 != e {
		t.Fatalf("ReadState(%s) = %v, %d, not %v, %d", b, got, e2, want, e)
	}
	if again, e := export.State(got); e2 == api.OK && (string(again) != string(b) || e != api.OK) {
		t.Fatalf("%s is read, and told as %s, %d", b, again, e)
	}
	n[e]++
}

// holdRecords is the same of ReadRecords.
func (n tally) holdRecords(t *testing.T, b []byte) {
	t.Helper()
	want, e := secondReadRecords(b)
	got, e2 := export.ReadRecords(b)
	if !same(got, want) || e2 != e {
		t.Fatalf("ReadRecords(%s) = %v, %d, not %v, %d", b, got, e2, want, e)
	}
	if again, e := export.Records(got...); e2 == api.OK && (string(again) != string(b) || e != api.OK) {
		t.Fatalf("%s is read, and told as %s, %d", b, again, e)
	}
	n[e]++
}

// wants is that each of these errors was answered.
func (n tally) wants(t *testing.T, errs ...api.Errno) {
	t.Helper()
	for _, e := range errs {
		if n[e] == 0 {
			t.Errorf("no text was answered by %d: %v", e, n)
		}
	}
}

// printed is the text of a value that was meddled with, if it has one.
func printed(v api.Value) ([]byte, bool) {
	b, e := cjson.Print(v)
	return b, e == api.OK
}

// everyChange calls f with the text of each value that has another one at one place, or a member more or less.
func everyChange(t *testing.T, text string, f func(b []byte)) {
	count := 0
	whole := parsed(text)
	places(&whole, func(*api.Value) { count++ })
	for at := range count {
		change := func(do func(p *api.Value)) {
			v, i := parsed(text), 0
			places(&v, func(p *api.Value) {
				if i++; i == at+1 {
					do(p)
				}
			})
			if b, is := printed(v); is {
				f(b)
			}
		}
		for _, odd := range oddTexts {
			change(func(p *api.Value) { *p = parsed(odd) })
		}
		for _, name := range oddNames {
			change(func(p *api.Value) {
				if p.Kind == api.JObject {
					p.Names, p.Items = append(p.Names, name), append(p.Items, api.Value{Kind: api.JInt, Int: 1})
				}
			})
		}
		for i := range 16 {
			change(func(p *api.Value) {
				if i < len(p.Items) {
					p.Items = slices.Delete(p.Items, i, i+1)
				}
				if i < len(p.Names) {
					p.Names = slices.Delete(p.Names, i, i+1)
				}
			})
		}
	}
}

// Promises 14.2 and 14.6: of a rich text each part in turn changed for many others: what is read, and why the others are not.
func TestReadStateOfEveryChange(t *testing.T) {
	t.Parallel()
	n := tally{}
	everyChange(t, states[3].s, func(b []byte) { n.holdState(t, b) })
	n.wants(t, api.OK, api.ErrShape, api.ErrHex, api.ErrState)
}

// Promises 14.4 and 14.6: the same of records.
func TestReadRecordsOfEveryChange(t *testing.T) {
	t.Parallel()
	n := tally{}
	for _, c := range records {
		everyChange(t, c.s, func(b []byte) { n.holdRecords(t, b) })
	}
	n.wants(t, api.OK, api.ErrShape, api.ErrHex, api.ErrState, api.ErrVersion, api.ErrID, api.ErrExtra, api.ErrBound, api.ErrLabel)
}

// Promises 14.2, 14.4 and 14.6: drawn texts with several things changed in them: the first error of the chapter's order.
func TestReadMeddled(t *testing.T) {
	t.Parallel()
	rnd := rand.New(rand.NewSource(1402))
	n := tally{}
	for i := range 8000 {
		text := stateText(anyState(rnd))
		if i%2 == 0 {
			text = recordsText(anyRecords(rnd))
		}
		v := parsed(text)
		for range 1 + rnd.Intn(4) {
			meddle(rnd, &v)
		}
		if b, is := printed(v); is {
			n.holdState(t, b)
			n.holdRecords(t, b)
		}
	}
	n.wants(t, api.OK, api.ErrShape, api.ErrHex, api.ErrState, api.ErrVersion, api.ErrID, api.ErrExtra, api.ErrBound, api.ErrLabel)
}

// Promises 14.2, 14.4, 14.6 and 14.8: drawn texts with bytes changed, cut off or put in: the errors of cjson.Parse are handed on, and nothing panics.
func TestReadBroken(t *testing.T) {
	t.Parallel()
	rnd := rand.New(rand.NewSource(1408))
	n := tally{}
	for i := range 8000 {
		b := []byte(stateText(anyState(rnd)))
		if i%2 == 0 {
			b = []byte(recordsText(anyRecords(rnd)))
		}
		for range 1 + rnd.Intn(3) {
			at := rnd.Intn(len(b) + 1)
			switch rnd.Intn(3) {
			case 0:
				b = b[:at]
			case 1:
				b = slices.Insert(b, at, pick(rnd, []byte(" 0\",[}f-\\\xff")...))
			case 2:
				if at < len(b) {
					b[at] = byte(rnd.Intn(256))
				}
			}
		}
		n.holdState(t, b)
		n.holdRecords(t, b)
	}
	n.wants(t, api.OK, api.ErrShape, api.ErrState, api.ErrForm, api.ErrEnd, api.ErrByte, api.ErrUTF, api.ErrBackslash)
}

// Promises 14.1 and 14.3: states and records with something changed in them are told just if they may be.
func TestToldJustIfTheyMay(t *testing.T) {
	t.Parallel()
	rnd := rand.New(rand.NewSource(1401))
	n := tally{}
	for range 8000 {
		st := anyState(rnd)
		if len(st.Sagas) > 0 {
			s := pick(rnd, -1, 0, 1)
			p := &st.Sagas[rnd.Intn(len(st.Sagas))]
			field := pick(rnd, &st.Count, &p.ID, &p.Count, &p.Pivot, &p.Begun, &p.At, &p.Phase, &p.Next, &p.Tries, &p.FailStep, &p.FailCode)
			*field = pick(rnd, *field+s, s, math.MaxInt, math.MinInt)
		}
		b, e := export.State(st)
		if mayBeTold(st) != (e == api.OK) || e != api.OK && (e != api.ErrState || len(b) != 0) || e == api.OK && string(b) != stateText(st) {
			t.Fatalf("State(%v) = %s, %d", st, b, e)
		}
		n[e]++
		recs := anyRecords(rnd)
		for i := range recs {
			r := &recs[i]
			if rnd.Intn(4) == 0 {
				*pick(rnd, &r.V, &r.Kind, &r.Saga, &r.Step, &r.Try, &r.At, &r.Last, &r.Code, &r.Count, &r.Pivot) = pick(rnd, 0, 1, 8, -1, math.MaxInt, math.MinInt)
			}
		}
		want := firstFault(recs)
		b, e = export.Records(recs...)
		if e != want || e != api.OK && len(b) != 0 || e == api.OK && string(b) != recordsText(recs) {
			t.Fatalf("Records(%v) = %s, %d, not %d", recs, b, e, want)
		}
		n[e]++
	}
	n.wants(t, api.OK, api.ErrState, api.ErrVersion, api.ErrKind, api.ErrID, api.ErrExtra, api.ErrBound)
}

// firstFault is the error of the first record that is not valid.
func firstFault(recs []api.Record) api.Errno {
	for _, r := range recs {
		if e := record.Check(r); e != api.OK {
			return e
		}
	}
	return api.OK
}

// Promise 14.7: what replay makes of a log, legal or not from some place on, may be told.
func TestWhatReplayMakesIsTold(t *testing.T) {
	t.Parallel()
	rnd := rand.New(rand.NewSource(1407))
	for range 2000 {
		var l log
		l.grow(rnd, rnd.Intn(80), 1, 2, 3, math.MaxInt)
		recs := slices.Concat(l.recs, anyRecords(rnd))
		st, _ := replay.Fold(recs...)
		b, e := export.State(st)
		if e != api.OK || string(b) != stateText(st) {
			t.Fatalf("State(%v) = %s, %d", st, b, e)
		}
		if got, e := export.ReadState(b); !same(got, st) || e != api.OK {
			t.Fatalf("ReadState(%s) = %v, %d", b, got, e)
		}
	}
}

// further is records that go on with a log for a while, and then often one that may not come.
func further(rnd *rand.Rand, l log) []api.Record {
	was := len(l.recs)
	l.sagas = slices.Clone(l.sagas)
	l.grow(rnd, rnd.Intn(20), 1, 2, 3, 4, math.MaxInt)
	out := slices.Clone(l.recs[was:])
	if len(out) > 0 && rnd.Intn(2) == 0 {
		at := rnd.Intn(len(out))
		out = slices.Delete(out, at, at+1)
	}
	return append(out, anyRecords(rnd)...)
}

// Promise 14.7: the stories of what is read go on as the log would have.
func TestStoriesGoOn(t *testing.T) {
	t.Parallel()
	rnd := rand.New(rand.NewSource(14077))
	refused := 0
	for range 2000 {
		var l log
		l.grow(rnd, rnd.Intn(80), 1, 2, 3, math.MaxInt)
		st, at := replay.Fold(l.recs...)
		if at != -1 {
			t.Fatalf("record %d of %v may not come", at, l.recs)
		}
		b, _ := export.State(st)
		back, e := export.ReadState(b)
		if e != api.OK {
			t.Fatal(e)
		}
		var stories []api.Record
		for _, s := range back.Sagas {
			recs, _ := saga.Story(s)
			stories = append(stories, recs...)
		}
		more := further(rnd, l)
		want, at := replay.Fold(slices.Concat(l.recs, more)...)
		got, at2 := replay.Fold(slices.Concat(stories, more)...)
		if at != -1 {
			at, at2 = at-len(l.recs), at2-len(stories)
			refused++
		}
		if at != at2 || !same(got.Sagas, want.Sagas) {
			t.Fatalf("%v behind %v leads to %v, %d, and behind %v to %v, %d", more, l.recs, want, at, stories, got, at2)
		}
	}
	if refused < 500 || refused > 1900 {
		t.Errorf("%d of 2000 were refused", refused)
	}
}
