package export_test

import (
	"fmt"
	"math"
	"strings"
	"testing"

	"annals/api"
	"annals/export"
)

// The calls, as the chapter lists them.
var (
	_ func(api.State) ([]byte, api.Errno)     = export.State
	_ func([]byte) (api.State, api.Errno)     = export.ReadState
	_ func(...api.Record) ([]byte, api.Errno) = export.Records
	_ func([]byte) ([]api.Record, api.Errno)  = export.ReadRecords
	_                                         = [...]api.Errno{api.ErrShape, api.ErrState, api.ErrHex}
)

// tell is all that an answer holds, as a text; nil and empty lists are the same.
func tell(v any) string { return fmt.Sprintf("%+v", v) }

// same tells whether two answers hold the same.
func same[T any](a, b T) bool { return tell(a) == tell(b) }

// short is the beginning of a text, for a test's complaint.
func short[T []byte | string](s T) string { return fmt.Sprintf("%.600s", string(s)) }

// s0 is the saga S0 of chapter 10.
func s0() api.Saga {
	return api.Saga{ID: 7, Name: "buy", Count: 2, Pivot: 1, Begun: 5, At: 5, Input: []byte("in"), Phase: api.Running}
}

// back is a saga with another value in each of its members.
func back() api.Saga {
	return api.Saga{
		ID: 9, Name: "b\u00fccher-2", Count: 12, Pivot: 11, Begun: 10, At: 13, Input: []byte{0xff, 0, 0x1f}, Phase: api.Undoing, Next: 1, Flight: true, Tries: 4,
		Outs: [][]byte{nil, []byte("x\"\n\x7f"), {0x80}}, Undos: [][]byte{{'a', 0xc3}, []byte("u")}, FailStep: 3, FailCode: -3, Fail: []byte("\u2028no"),
	}
}

const (
	text0    = `{"at":5,"begun":5,"count":2,"fail":"","fail_code":0,"fail_step":0,"flight":false,"id":7,"input":"in","name":"buy","next":0,"outs":[],"phase":"running","pivot":1,"tries":0,"undos":[]}`
	textBack = "{\"at\":13,\"begun\":10,\"count\":12,\"fail\":\"\u2028no\",\"fail_code\":-3,\"fail_step\":3,\"flight\":true,\"id\":9,\"input\":{\"raw\":\"ff001f\"},\"name\":\"b\u00fccher-2\",\"next\":1," +
		"\"outs\":[\"\",\"x\\\"\\n\x7f\",{\"raw\":\"80\"}],\"phase\":\"undoing\",\"pivot\":11,\"tries\":4,\"undos\":[{\"raw\":\"61c3\"},\"u\"]}"
)

// states are states that may be told, and their texts.
var states = []struct {
	st api.State
	s  string
}{
	{api.State{}, `{"count":0,"sagas":[]}`},
	{api.State{Count: math.MaxInt}, `{"count":9223372036854775807,"sagas":[]}`},
	{api.State{Count: 1, Sagas: []api.Saga{s0()}}, `{"count":1,"sagas":[` + text0 + `]}`},
	{api.State{Count: 2, Sagas: []api.Saga{s0(), back()}}, `{"count":2,"sagas":[` + text0 + `,` + textBack + `]}`},
	{api.State{Count: 40, Sagas: []api.Saga{back()}}, `{"count":40,"sagas":[` + textBack + `]}`},
	{api.State{Count: 3, Sagas: []api.Saga{
		{ID: 1, Name: "a", Count: 1, Begun: 8, At: 3, Phase: api.Whole, Next: 1, Outs: [][]byte{{}}},
		{ID: math.MaxInt, Name: "a", Count: 1, Begun: 3, At: math.MaxInt, Phase: api.Undone, FailCode: math.MinInt, Fail: []byte("{\"raw\":\"ff\"}")},
	}}, `{"count":3,"sagas":[{"at":3,"begun":8,"count":1,"fail":"","fail_code":0,"fail_step":0,"flight":false,"id":1,"input":"","name":"a","next":1,"outs":[""],"phase":"whole","pivot":0,"tries":0,"undos":[]},` +
		`{"at":9223372036854775807,"begun":3,"count":1,"fail":"{\"raw\":\"ff\"}","fail_code":-9223372036854775808,"fail_step":0,"flight":false,"id":9223372036854775807,"input":"","name":"a","next":0,"outs":[],"phase":"undone","pivot":0,"tries":0,"undos":[]}]}`},
}

// Promises 14.1, 14.2, 14.5 and 14.6: states and their texts, in both directions.
func TestStates(t *testing.T) {
	for _, c := range states {
		if b, e := export.State(c.st); string(b) != c.s || e != api.OK {
			t.Errorf("State(%v) = %s, %d, not %s", c.st, b, e, c.s)
		}
		if st, e := export.ReadState([]byte(c.s)); tell(st) != tell(c.st) || e != api.OK {
			t.Errorf("ReadState(%s) = %v, %d", c.s, st, e)
		}
	}
}

// Promise 14.1: a state that may not be told has no text.
func TestStateRefuses(t *testing.T) {
	with := func(s api.Saga, change func(s *api.Saga)) api.Saga {
		change(&s)
		return s
	}
	low := with(s0(), func(s *api.Saga) { s.ID = 6 })
	for i, st := range []api.State{
		{Count: -1},
		{Count: math.MinInt},
		{Count: 0, Sagas: []api.Saga{s0()}},
		{Count: 1, Sagas: []api.Saga{s0(), back()}},
		{Count: 2, Sagas: []api.Saga{s0(), s0()}},
		{Count: 2, Sagas: []api.Saga{s0(), low}},
		{Count: 3, Sagas: []api.Saga{low, back(), s0()}},
		{Count: 9, Sagas: []api.Saga{{}}},
		{Count: 9, Sagas: []api.Saga{with(s0(), func(s *api.Saga) { s.ID = 0 })}},
		{Count: 9, Sagas: []api.Saga{with(s0(), func(s *api.Saga) { s.ID = -7 })}},
		{Count: 9, Sagas: []api.Saga{with(s0(), func(s *api.Saga) { s.Next = 1 })}},
		{Count: 9, Sagas: []api.Saga{with(s0(), func(s *api.Saga) { s.At = 6 })}},
		{Count: 9, Sagas: []api.Saga{with(s0(), func(s *api.Saga) { s.Name = "" })}},
		{Count: 9, Sagas: []api.Saga{with(s0(), func(s *api.Saga) { s.Name = "b\xff" })}},
		{Count: 9, Sagas: []api.Saga{with(s0(), func(s *api.Saga) { s.Phase = 0 })}},
		{Count: 9, Sagas: []api.Saga{with(s0(), func(s *api.Saga) { s.Phase = -1 })}},
		{Count: 9, Sagas: []api.Saga{with(s0(), func(s *api.Saga) { s.Phase = 5 })}},
		{Count: 9, Sagas: []api.Saga{with(s0(), func(s *api.Saga) { s.Phase = math.MaxInt })}},
		{Count: 9, Sagas: []api.Saga{with(s0(), func(s *api.Saga) { s.Input = make([]byte, api.MaxData+1) })}},
		{Count: 9, Sagas: []api.Saga{s0(), with(back(), func(s *api.Saga) { s.FailStep = 2 })}},
		{Count: 9, Sagas: []api.Saga{with(s0(), func(s *api.Saga) { s.Count = 33 }), back()}},
	} {
		if b, e := export.State(st); len(b) != 0 || e != api.ErrState {
			t.Errorf("state %d: %s, %d", i, short(b), e)
		}
	}
}

// records are valid records, and their texts.
var records = []struct {
	recs []api.Record
	s    string
}{
	{nil, `[]`},
	{[]api.Record{{V: 2, Kind: 2, Saga: 5, Try: 1}}, `[{"kind":"start","saga":5,"try":1,"v":2}]`},
	{[]api.Record{{V: 3, Kind: 3, Saga: 5, Data: []byte{0xff, 0x61}}}, `[{"data":{"raw":"ff61"},"kind":"done","saga":5,"v":3}]`},
	{[]api.Record{{V: 1, Kind: 1, Saga: 5, Step: 2, Data: []byte("pay")}, {V: 1, Kind: 2, Saga: 5}}, `[{"data":"pay","kind":"begin","saga":5,"step":2,"v":1},{"kind":"start","saga":5,"v":1}]`},
	{[]api.Record{{V: 3, Kind: 1, Saga: 5, Count: 3, Pivot: 2, Name: "b\u00fc", At: 4, Data: []byte("\x00")}}, "[{\"at\":4,\"count\":3,\"data\":\"\\u0000\",\"kind\":\"begin\",\"name\":\"b\u00fc\",\"pivot\":2,\"saga\":5,\"v\":3}]"},
	{[]api.Record{{V: 3, Kind: 4, Saga: 5, Step: 1, Last: 1, Code: -2, At: 9, Data: []byte{0xc3}}}, `[{"at":9,"code":-2,"data":{"raw":"c3"},"kind":"fail","last":1,"saga":5,"step":1,"v":3}]`},
	{[]api.Record{{V: 2, Kind: 5, Saga: 5, Step: 31, Try: 1000, At: math.MaxInt}}, `[{"at":9223372036854775807,"kind":"undo","saga":5,"step":31,"try":1000,"v":2}]`},
	{[]api.Record{{V: 1, Kind: 6, Saga: math.MaxInt, Data: []byte{}}, {V: 3, Kind: 7, Saga: 1, Code: 2}, {V: 3, Kind: 7, Saga: 1, Code: 2}}, `[{"kind":"undone","saga":9223372036854775807,"v":1},{"code":2,"kind":"end","saga":1,"v":3},{"code":2,"kind":"end","saga":1,"v":3}]`},
	{[]api.Record{{V: 3, Kind: 4, Saga: 1, Code: math.MinInt}}, `[{"code":-9223372036854775808,"kind":"fail","saga":1,"v":3}]`},
}

// Promises 14.3, 14.4, 14.5 and 14.6: records and their texts, in both directions.
func TestRecords(t *testing.T) {
	for _, c := range records {
		if b, e := export.Records(c.recs...); string(b) != c.s || e != api.OK {
			t.Errorf("Records(%v) = %s, %d, not %s", c.recs, b, e, c.s)
		}
		if recs, e := export.ReadRecords([]byte(c.s)); tell(recs) != tell(c.recs) || e != api.OK {
			t.Errorf("ReadRecords(%s) = %v, %d", c.s, recs, e)
		}
	}
}

// Promise 14.3: the error of the first record that is not valid, and no bytes.
func TestRecordsRefuses(t *testing.T) {
	good := api.Record{V: 2, Kind: 2, Saga: 5, Try: 1}
	for _, c := range []struct {
		recs []api.Record
		e    api.Errno
	}{
		{[]api.Record{{}}, api.ErrVersion},
		{[]api.Record{{V: 3, Kind: 3}}, api.ErrID},
		{[]api.Record{{V: 3}}, api.ErrKind},
		{[]api.Record{{V: 3, Kind: 8, Saga: 1}}, api.ErrKind},
		{[]api.Record{{V: 3, Kind: -1, Saga: 1}}, api.ErrKind},
		{[]api.Record{good, {V: 4}, {V: 3}}, api.ErrVersion},
		{[]api.Record{good, {V: 3}, {V: 4}, good}, api.ErrKind},
		{[]api.Record{good, good, {V: 2, Kind: 2, Saga: 5}}, api.ErrBound},
		{[]api.Record{{V: 2, Kind: 7, Saga: 5, Try: 1}}, api.ErrExtra},
		{[]api.Record{{V: 2, Kind: 1, Saga: 5, Count: 1}}, api.ErrLabel},
		{[]api.Record{{V: 2, Kind: 3, Saga: 5, Data: make([]byte, api.MaxData+1)}}, api.ErrData},
	} {
		if b, e := export.Records(c.recs...); len(b) != 0 || e != c.e {
			t.Errorf("Records(%.200s) = %s, %d, not %d", tell(c.recs), short(b), e, c.e)
		}
	}
}

// oddRaws are the texts of byte strings that are none: what stands in the place of one, and why it may not.
var oddRaws = []struct {
	s string
	e api.Errno
}{
	{`{"raw":""}`, api.ErrHex}, {`{"raw":"61"}`, api.ErrHex}, {`{"raw":"00"}`, api.ErrHex}, {`{"raw":"c3bc"}`, api.ErrHex}, {`{"raw":"f09f9880"}`, api.ErrHex}, {`{"raw":"efbfbd"}`, api.ErrHex},
	{`{"raw":"f"}`, api.ErrHex}, {`{"raw":"fff"}`, api.ErrHex}, {`{"raw":"FF"}`, api.ErrHex}, {`{"raw":"fF"}`, api.ErrHex}, {`{"raw":"fg"}`, api.ErrHex}, {`{"raw":"gf"}`, api.ErrHex}, {`{"raw":"ff "}`, api.ErrHex},
	{`{"raw":" ff"}`, api.ErrHex}, {`{"raw":"ff6"}`, api.ErrHex}, {`{"raw":"0xff"}`, api.ErrHex}, {`{"raw":"ff` + "\u00fc" + `"}`, api.ErrHex}, {`{"raw":"f/"}`, api.ErrHex}, {`{"raw":"f:"}`, api.ErrHex}, {"{\"raw\":\"f`\"}", api.ErrHex},
	{`{}`, api.ErrShape}, {`{"Raw":"ff"}`, api.ErrShape}, {`{"":"ff"}`, api.ErrShape}, {`{"ra":"ff"}`, api.ErrShape}, {`{"raw":"ff","x":"ff"}`, api.ErrShape}, {`{"a":"ff","raw":"ff"}`, api.ErrShape}, {`{"raw":1}`, api.ErrShape},
	{`{"raw":null}`, api.ErrShape}, {`{"raw":["ff"]}`, api.ErrShape}, {`{"raw":{"raw":"ff"}}`, api.ErrShape}, {`null`, api.ErrShape}, {`0`, api.ErrShape}, {`true`, api.ErrShape}, {`[]`, api.ErrShape}, {`["ff"]`, api.ErrShape},
}

// Promises 14.2 and 14.4: what stands in the place of a byte string and is none, in each place where one may stand.
func TestByteStringsThatAreNone(t *testing.T) {
	whole := states[3].s
	for _, c := range oddRaws {
		for _, place := range []string{`"in"`, "\"\u2028no\"", `{"raw":"ff001f"}`, `{"raw":"80"}`, `{"raw":"61c3"}`, `"u"`} {
			if s := strings.Replace(whole, place, c.s, 1); s == whole {
				t.Fatal(place)
			} else if st, e := export.ReadState([]byte(s)); tell(st) != tell(api.State{}) || e != c.e {
				t.Errorf("ReadState(%s) = %v, %d, not %d", s, st, e, c.e)
			}
		}
		if recs, e := export.ReadRecords([]byte(`[{"data":` + c.s + `,"kind":"done","saga":5,"v":3}]`)); len(recs) != 0 || e != c.e {
			t.Errorf("data %s: %v, %d, not %d", c.s, recs, e, c.e)
		}
	}
}

// Promises 14.2, 14.4 and 14.5: byte strings that are UTF-8 to the letter are told as strings, and all others raw.
func TestByteStrings(t *testing.T) {
	for _, c := range []struct{ b, s string }{
		{"a", `"a"`}, {"\x00", `"\u0000"`}, {"\x7f", "\"\x7f\""}, {"\u0080", "\"\u0080\""}, {"\ud7ff\ue000\ufffd\uffff", "\"\ud7ff\ue000\ufffd\uffff\""}, {"\U00010000\U0010ffff", "\"\U00010000\U0010ffff\""}, {"\ufeff", "\"\ufeff\""},
		{"\x80", `{"raw":"80"}`}, {"\xbf", `{"raw":"bf"}`}, {"\xc0\x80", `{"raw":"c080"}`}, {"\xc1\xbf", `{"raw":"c1bf"}`}, {"\xe0\x9f\xbf", `{"raw":"e09fbf"}`}, {"\xf0\x8f\xbf\xbf", `{"raw":"f08fbfbf"}`},
		{"\xed\xa0\x80", `{"raw":"eda080"}`}, {"\xed\xbf\xbf", `{"raw":"edbfbf"}`}, {"\xf4\x90\x80\x80", `{"raw":"f4908080"}`}, {"\xe2\x82", `{"raw":"e282"}`}, {"ok\xff", `{"raw":"6f6bff"}`}, {"\x01\x23\x45\x67\x89\xab\xcd\xef", `{"raw":"0123456789abcdef"}`},
	} {
		want := `[{"data":` + c.s + `,"kind":"done","saga":5,"v":3}]`
		rec := api.Record{V: 3, Kind: 3, Saga: 5, Data: []byte(c.b)}
		if b, e := export.Records(rec); string(b) != want || e != api.OK {
			t.Errorf("data %x: %s, %d", c.b, b, e)
		}
		if recs, e := export.ReadRecords([]byte(want)); tell(recs) != tell([]api.Record{rec}) || e != api.OK {
			t.Errorf("ReadRecords(%s) = %v, %d", want, recs, e)
		}
	}
}

// oddStates are texts that are no state's, and why.
var oddStates = []struct {
	s string
	e api.Errno
}{
	{``, api.ErrEnd}, {`{"count":0`, api.ErrEnd}, {`{"count":0, "sagas":[]}`, api.ErrForm}, {`{"sagas":[],"count":0}`, api.ErrForm}, {`{"count":0,"sagas":[]} `, api.ErrForm}, {`{"count":-0,"sagas":[]}`, api.ErrForm}, {`{"count":0.5,"sagas":[]}`, api.ErrInteger},
	{`{"count":9223372036854775808,"sagas":[]}`, api.ErrRange}, {`{"count":0,"count":0}`, api.ErrMember}, {`x`, api.ErrByte}, {"\"\xff\"", api.ErrUTF}, {`"\x"`, api.ErrBackslash}, {strings.Repeat("[", 17) + strings.Repeat("]", 17), api.ErrDeep},
	{`null`, api.ErrShape}, {`0`, api.ErrShape}, {`""`, api.ErrShape}, {`true`, api.ErrShape}, {`[]`, api.ErrShape}, {`{}`, api.ErrShape}, {`{"count":0}`, api.ErrShape}, {`{"sagas":[]}`, api.ErrShape}, {`{"count":0,"sagas":[],"x":0}`, api.ErrShape}, {`{"a":0,"count":0,"sagas":[]}`, api.ErrShape},
	{`{"count":0,"d":0,"sagas":[]}`, api.ErrShape}, {`{"count":0,"saga":[]}`, api.ErrShape}, {`{"Count":0,"sagas":[]}`, api.ErrShape}, {`{"count":"0","sagas":[]}`, api.ErrShape}, {`{"count":null,"sagas":[]}`, api.ErrShape}, {`{"count":false,"sagas":[]}`, api.ErrShape}, {`{"count":[],"sagas":[]}`, api.ErrShape},
	{`{"count":0,"sagas":{}}`, api.ErrShape}, {`{"count":0,"sagas":null}`, api.ErrShape}, {`{"count":0,"sagas":""}`, api.ErrShape}, {`{"count":0,"sagas":0}`, api.ErrShape}, {`{"count":-1,"sagas":0}`, api.ErrShape},
	{`{"count":1,"sagas":[{}]}`, api.ErrShape}, {`{"count":1,"sagas":[0]}`, api.ErrShape}, {`{"count":1,"sagas":[[]]}`, api.ErrShape}, {`{"count":1,"sagas":[null]}`, api.ErrShape},
	{`{"count":-1,"sagas":[]}`, api.ErrState}, {`{"count":0,"sagas":[` + text0 + `]}`, api.ErrState}, {`{"count":9,"sagas":[` + text0 + `,` + text0 + `]}`, api.ErrState}, {`{"count":9,"sagas":[` + textBack + `,` + text0 + `]}`, api.ErrState}, {`{"count":1,"sagas":[` + text0 + `,` + textBack + `]}`, api.ErrState},
	{`{"count":0,"sagas":[` + text0 + `,0]}`, api.ErrShape}, {`{"count":0,"sagas":[0,` + text0 + `]}`, api.ErrShape},
}

// Promise 14.2: texts that are no state's: the error of the reader of JSON, another shape, values that no state has.
func TestReadStateRefuses(t *testing.T) {
	for _, c := range oddStates {
		if st, e := export.ReadState([]byte(c.s)); tell(st) != tell(api.State{}) || e != c.e {
			t.Errorf("ReadState(%s) = %v, %d, not %d", short(c.s), st, e, c.e)
		}
	}
}

// Promise 14.2: of several faults of a state the shape comes first, then raw bytes, then what no state has, wherever they stand.
func TestReadStateOrder(t *testing.T) {
	shape := [2]string{`"flight":true`, `"flight":1`}
	hex := [2]string{`{"raw":"80"}`, `{"raw":"08"}`}
	phase := [2]string{`"phase":"undoing"`, `"phase":"Undoing"`}
	wrong := [2]string{`"tries":4`, `"tries":0`}
	count := [2]string{`"count":2,"sagas"`, `"count":-2,"sagas"`}
	early := [2]string{`"input":"in"`, `"input":{"raw":"6"}`}
	shape0 := [2]string{`"flight":false`, `"flight":null`}
	phase0 := [2]string{`"phase":"running"`, `"phase":""`}
	wrong0 := [2]string{`"pivot":1,`, `"pivot":3,`}
	for _, c := range []struct {
		e       api.Errno
		changes [][2]string
	}{
		{api.OK, nil},
		{api.ErrShape, [][2]string{shape}}, {api.ErrHex, [][2]string{hex}}, {api.ErrState, [][2]string{phase}}, {api.ErrState, [][2]string{wrong}}, {api.ErrState, [][2]string{count}},
		{api.ErrHex, [][2]string{early}}, {api.ErrShape, [][2]string{shape0}}, {api.ErrState, [][2]string{phase0}}, {api.ErrState, [][2]string{wrong0}},
		{api.ErrShape, [][2]string{early, shape}}, {api.ErrShape, [][2]string{phase0, early, shape}}, {api.ErrShape, [][2]string{count, wrong0, shape}}, {api.ErrShape, [][2]string{hex, shape0}}, {api.ErrShape, [][2]string{hex, shape, phase}},
		{api.ErrHex, [][2]string{phase0, hex}}, {api.ErrHex, [][2]string{count, hex}}, {api.ErrHex, [][2]string{wrong0, hex}}, {api.ErrHex, [][2]string{early, phase}}, {api.ErrHex, [][2]string{hex, phase, wrong}},
		{api.ErrState, [][2]string{phase0, count, wrong}},
	} {
		s := states[3].s
		for _, change := range c.changes {
			if !strings.Contains(s, change[0]) {
				t.Fatal(change)
			}
			s = strings.Replace(s, change[0], change[1], 1)
		}
		if _, e := export.ReadState([]byte(s)); e != c.e {
			t.Errorf("ReadState(%s) = %d, not %d", s, e, c.e)
		}
	}
}

// Promise 14.4: texts that are no records', and of several faults the first to be told.
func TestReadRecordsRefuses(t *testing.T) {
	const (
		good  = `{"kind":"start","saga":5,"try":1,"v":2}`
		shape = `{"kind":"start","saga":5,"try":"1","v":2}`
		hex   = `{"data":{"raw":"FF"},"kind":"done","saga":5,"v":3}`
		zero  = `{"kind":"start","saga":5,"step":0,"try":1,"v":2}`
		word  = `{"kind":"starts","saga":5,"try":1,"v":2}`
		none  = `{"kind":"start","saga":0,"try":1,"v":2}`
		extra = `{"kind":"done","saga":5,"try":1,"v":3}`
	)
	for _, c := range []struct {
		s string
		e api.Errno
	}{
		{``, api.ErrEnd}, {`[`, api.ErrEnd}, {`[]]`, api.ErrByte}, {`[ ]`, api.ErrForm}, {`[` + good + `, ` + good + `]`, api.ErrForm}, {`[{"saga":5,"kind":"end","v":2}]`, api.ErrForm}, {`[{"v":1,"v":1}]`, api.ErrMember}, {`[1.5]`, api.ErrInteger}, {"[\"\xff\"]", api.ErrUTF},
		{`{}`, api.ErrShape}, {`null`, api.ErrShape}, {`0`, api.ErrShape}, {`""`, api.ErrShape}, {`true`, api.ErrShape}, {good, api.ErrShape}, {`[0]`, api.ErrShape}, {`[null]`, api.ErrShape}, {`[[]]`, api.ErrShape}, {`[{}]`, api.ErrShape}, {`[[` + good + `]]`, api.ErrShape}, {`[""]`, api.ErrShape},
		{`[{"kind":"start","saga":5,"try":1}]`, api.ErrShape}, {`[{"kind":"start","try":1,"v":2}]`, api.ErrShape}, {`[{"saga":5,"try":1,"v":2}]`, api.ErrShape}, {`[{"kind":"end","saga":1,"v":1,"x":1}]`, api.ErrShape}, {`[{"":1,"kind":"end","saga":1,"v":1}]`, api.ErrShape}, {`[{"id":1,"kind":"end","saga":1,"v":1}]`, api.ErrShape},
		{`[{"kind":1,"saga":1,"v":1}]`, api.ErrShape}, {`[{"kind":null,"saga":1,"v":1}]`, api.ErrShape}, {`[{"kind":[],"saga":1,"v":1}]`, api.ErrShape}, {`[{"kind":"end","saga":"1","v":1}]`, api.ErrShape}, {`[{"kind":"end","saga":1,"v":null}]`, api.ErrShape}, {`[{"kind":"end","saga":1,"step":"","v":1}]`, api.ErrShape}, {`[{"kind":"end","saga":1,"step":false,"v":1}]`, api.ErrShape},
		{`[{"kind":"end","name":0,"saga":1,"v":1}]`, api.ErrShape}, {`[{"data":0,"kind":"end","saga":1,"v":1}]`, api.ErrShape}, {`[{"data":[],"kind":"end","saga":1,"v":1}]`, api.ErrShape}, {`[{"data":{},"kind":"end","saga":1,"v":1}]`, api.ErrShape},
		{`[` + word + `]`, api.ErrState}, {`[{"kind":"","saga":5,"v":2}]`, api.ErrState}, {`[{"kind":"End","saga":5,"v":2}]`, api.ErrState}, {`[{"kind":"end ","saga":5,"v":2}]`, api.ErrState}, {`[{"kind":"whole","saga":5,"v":2}]`, api.ErrState}, {`[{"kind":"7","saga":5,"v":2}]`, api.ErrState},
		{`[{"at":0,"kind":"end","saga":1,"v":3}]`, api.ErrState}, {`[{"code":0,"kind":"end","saga":1,"v":3}]`, api.ErrState}, {`[{"count":0,"kind":"end","saga":1,"v":3}]`, api.ErrState}, {`[{"data":"","kind":"end","saga":1,"v":3}]`, api.ErrState}, {`[{"kind":"end","last":0,"saga":1,"v":3}]`, api.ErrState},
		{`[{"kind":"end","name":"","saga":1,"v":3}]`, api.ErrState}, {`[{"kind":"end","pivot":0,"saga":1,"v":3}]`, api.ErrState}, {`[` + zero + `]`, api.ErrState}, {`[{"kind":"end","saga":1,"try":0,"v":3}]`, api.ErrState},
		{`[` + none + `]`, api.ErrID}, {`[{"kind":"end","saga":-1,"v":3}]`, api.ErrID}, {`[{"kind":"end","saga":1,"v":0}]`, api.ErrVersion}, {`[{"kind":"end","saga":1,"v":4}]`, api.ErrVersion}, {`[` + extra + `]`, api.ErrExtra}, {`[{"kind":"start","saga":5,"v":2}]`, api.ErrBound}, {`[{"at":-1,"kind":"end","saga":5,"v":2}]`, api.ErrBound},
		{`[{"count":1,"kind":"begin","name":"2b","saga":5,"v":2}]`, api.ErrLabel}, {`[{"data":"2b","kind":"begin","saga":5,"step":1,"v":1}]`, api.ErrLabel}, {`[{"data":"` + strings.Repeat("x", api.MaxData+1) + `","kind":"done","saga":5,"v":2}]`, api.ErrData},
		// A record that has the one and the other.
		{`[{"kind":"start","saga":0,"step":0,"try":1,"v":9}]`, api.ErrState}, {`[{"kind":"starts","saga":0,"v":9}]`, api.ErrState}, {`[{"data":{"raw":"FF"},"kind":"x","saga":0,"step":0,"v":0}]`, api.ErrHex}, {`[{"data":{"raw":"FF"},"kind":"x","saga":0,"step":"","v":0}]`, api.ErrShape}, {`[{"data":"","kind":0,"saga":1,"v":3}]`, api.ErrShape},
		// Records that have the one and the other.
		{`[` + good + `,` + shape + `,` + hex + `]`, api.ErrShape}, {`[` + zero + `,` + hex + `,` + shape + `]`, api.ErrShape}, {`[` + none + `,` + hex + `,` + zero + `]`, api.ErrHex}, {`[` + good + `,` + extra + `,` + hex + `]`, api.ErrHex},
		{`[` + none + `,` + extra + `]`, api.ErrID}, {`[` + extra + `,` + none + `]`, api.ErrExtra}, {`[` + extra + `,` + zero + `]`, api.ErrExtra}, {`[` + zero + `,` + extra + `]`, api.ErrState}, {`[` + word + `,` + none + `]`, api.ErrState}, {`[` + none + `,` + word + `]`, api.ErrID},
	} {
		if recs, e := export.ReadRecords([]byte(c.s)); len(recs) != 0 || e != c.e {
			t.Errorf("ReadRecords(%s) = %v, %d, not %d", short(c.s), recs, e, c.e)
		}
	}
}
