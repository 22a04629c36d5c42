package export_test

import (
	"bytes"
	"encoding/hex"
	"encoding/json"
	"fmt"
	"sort"
	"strings"
	"unicode/utf8"

	"annals/api"
	"annals/cjson"
	"annals/record"
	"annals/saga"
)

// The second reading of the chapter: texts are put together by hand, and taken apart as the library's JSON values, in three walks: one for the shape, one for raw bytes, one for what the values say.

var phaseNumbers = map[string]int{"running": 1, "undoing": 2, "whole": 3, "undone": 4}

var kindNumbers = map[string]int{"begin": 1, "start": 2, "done": 3, "fail": 4, "undo": 5, "undone": 6, "end": 7}

func wordOf(numbers map[string]int, n int) string {
	for w, k := range numbers {
		if k == n {
			return w
		}
	}
	return "?"
}

// quoted is the canonical text of a string.
func quoted(s string) string {
	var out strings.Builder
	for _, r := range s {
		switch {
		case r == '"' || r == '\\':
			out.WriteString("\\" + string(r))
		case strings.ContainsRune("\b\t\n\f\r", r):
			out.WriteString("\\" + string("btnfr"[strings.IndexRune("\b\t\n\f\r", r)]))
		case r < 32:
			fmt.Fprintf(&out, "\\u%04x", r)
		default:
			out.WriteRune(r)
		}
	}
	return `"` + out.String() + `"`
}

func bytesText(b []byte) string {
	if utf8.Valid(b) {
		return quoted(string(b))
	}
	return `{"raw":"` + hex.EncodeToString(b) + `"}`
}

func listText(lists [][]byte) string {
	var out []string
	for _, b := range lists {
		out = append(out, bytesText(b))
	}
	return "[" + strings.Join(out, ",") + "]"
}

func sagaText(s api.Saga) string {
	return fmt.Sprintf(`{"at":%d,"begun":%d,"count":%d,"fail":%s,"fail_code":%d,"fail_step":%d,"flight":%v,"id":%d,"input":%s,"name":%s,"next":%d,"outs":%s,"phase":"%s","pivot":%d,"tries":%d,"undos":%s}`,
		s.At, s.Begun, s.Count, bytesText(s.Fail), s.FailCode, s.FailStep, s.Flight, s.ID, bytesText(s.Input), quoted(s.Name), s.Next, listText(s.Outs), wordOf(phaseNumbers, s.Phase), s.Pivot, s.Tries, listText(s.Undos))
}

// stateText is the second reading of State, of a state that may be told.
func stateText(st api.State) string {
	var out []string
	for _, s := range st.Sagas {
		out = append(out, sagaText(s))
	}
	return fmt.Sprintf(`{"count":%d,"sagas":[%s]}`, st.Count, strings.Join(out, ","))
}

func recordText(r api.Record) string {
	out := []string{fmt.Sprintf(`"v":%d`, r.V), `"kind":"` + wordOf(kindNumbers, r.Kind) + `"`, fmt.Sprintf(`"saga":%d`, r.Saga)}
	number := func(name string, n int) {
		if n != 0 {
			out = append(out, fmt.Sprintf(`"%s":%d`, name, n))
		}
	}
	number("step", r.Step)
	number("try", r.Try)
	number("at", r.At)
	number("last", r.Last)
	number("code", r.Code)
	number("count", r.Count)
	number("pivot", r.Pivot)
	if r.Name != "" {
		out = append(out, `"name":`+quoted(r.Name))
	}
	if len(r.Data) != 0 {
		out = append(out, `"data":`+bytesText(r.Data))
	}
	sort.Strings(out) // no name of a member is the beginning of another, but for what a quote parts
	return "{" + strings.Join(out, ",") + "}"
}

// recordsText is the second reading of Records, of valid records.
func recordsText(recs []api.Record) string {
	var out []string
	for _, r := range recs {
		out = append(out, recordText(r))
	}
	return "[" + strings.Join(out, ",") + "]"
}

// value is what the library reads of a canonical text.
func value(b []byte) any {
	d := json.NewDecoder(bytes.NewReader(b))
	d.UseNumber()
	var v any
	if err := d.Decode(&v); err != nil {
		panic(err)
	}
	return v
}

type object = map[string]any

func isNumber(v any) bool { _, is := v.(json.Number); return is }

func isText(v any) bool { _, is := v.(string); return is }

func isBool(v any) bool { _, is := v.(bool); return is }

func isBytes(v any) bool {
	if o, is := v.(object); is {
		return len(o) == 1 && isText(o["raw"])
	}
	return isText(v)
}

// isListOf tells of a test of values one of arrays of such.
func isListOf(item func(any) bool) func(any) bool {
	return func(v any) bool {
		l, is := v.([]any)
		for _, x := range l {
			is = is && item(x)
		}
		return is
	}
}

var sagaShape = map[string]func(any) bool{
	"id": isNumber, "count": isNumber, "pivot": isNumber, "begun": isNumber, "at": isNumber, "next": isNumber, "tries": isNumber, "fail_step": isNumber, "fail_code": isNumber,
	"name": isText, "phase": isText, "flight": isBool, "input": isBytes, "fail": isBytes, "outs": isListOf(isBytes), "undos": isListOf(isBytes),
}

var recordShape = map[string]func(any) bool{
	"v": isNumber, "saga": isNumber, "step": isNumber, "try": isNumber, "at": isNumber, "last": isNumber, "code": isNumber, "count": isNumber, "pivot": isNumber,
	"kind": isText, "name": isText, "data": isBytes,
}

// isObject tells whether a value is an object of that shape, with those members at least.
func isObject(v any, shape map[string]func(any) bool, least ...string) bool {
	o, is := v.(object)
	for name, item := range o {
		test, known := shape[name]
		is = is && known && test(item)
	}
	for _, name := range least {
		_, there := o[name]
		is = is && there
	}
	return is
}

func isSaga(v any) bool { return isObject(v, sagaShape) && len(v.(object)) == len(sagaShape) }

func isRecord(v any) bool { return isObject(v, recordShape, "v", "kind", "saga") }

func isState(v any) bool {
	return isObject(v, map[string]func(any) bool{"count": isNumber, "sagas": isListOf(isSaga)}, "count", "sagas")
}

// rawsAreRight tells whether all raw bytes within a value of the right shape are such, and need be raw.
func rawsAreRight(v any) bool {
	right := true
	switch x := v.(type) {
	case []any:
		for _, item := range x {
			right = right && rawsAreRight(item)
		}
	case object:
		if s, is := x["raw"].(string); is {
			b, err := hex.DecodeString(s)
			return err == nil && strings.ToLower(s) == s && !utf8.Valid(b)
		}
		for _, item := range x {
			right = right && rawsAreRight(item)
		}
	}
	return right
}

func numberIn(v any) int {
	n, _ := v.(json.Number)
	i, _ := n.Int64()
	return int(i)
}

func textIn(v any) string { s, _ := v.(string); return s }

func bytesIn(v any) []byte {
	if o, is := v.(object); is {
		b, _ := hex.DecodeString(o["raw"].(string))
		return b
	}
	return []byte(textIn(v))
}

func bytesListIn(v any) [][]byte {
	var out [][]byte
	for _, item := range v.([]any) {
		out = append(out, bytesIn(item))
	}
	return out
}

func sagaIn(v any) api.Saga {
	o := v.(object)
	return api.Saga{
		ID: numberIn(o["id"]), Name: textIn(o["name"]), Count: numberIn(o["count"]), Pivot: numberIn(o["pivot"]), Begun: numberIn(o["begun"]), At: numberIn(o["at"]), Input: bytesIn(o["input"]),
		Phase: phaseNumbers[textIn(o["phase"])], Next: numberIn(o["next"]), Flight: o["flight"].(bool), Tries: numberIn(o["tries"]), Outs: bytesListIn(o["outs"]), Undos: bytesListIn(o["undos"]),
		FailStep: numberIn(o["fail_step"]), FailCode: numberIn(o["fail_code"]), Fail: bytesIn(o["fail"]),
	}
}

// mayBeTold is the chapter's word on states.
func mayBeTold(st api.State) bool {
	told := st.Count >= len(st.Sagas)
	for i, s := range st.Sagas {
		told = told && saga.Check(s) == api.OK && (i == 0 || s.ID > st.Sagas[i-1].ID)
	}
	return told
}

// secondReadState is the second reading of ReadState.
func secondReadState(b []byte) (api.State, api.Errno) {
	if _, e, _ := cjson.Parse(b); e != api.OK {
		return api.State{}, e
	}
	v := value(b)
	if !isState(v) {
		return api.State{}, api.ErrShape
	}
	if !rawsAreRight(v) {
		return api.State{}, api.ErrHex
	}
	st := api.State{Count: numberIn(v.(object)["count"])}
	for _, s := range v.(object)["sagas"].([]any) {
		st.Sagas = append(st.Sagas, sagaIn(s)) // the phase of another word is 0, which no saga has
	}
	if !mayBeTold(st) {
		return api.State{}, api.ErrState
	}
	return st, api.OK
}

func recordIn(v any) api.Record {
	o := v.(object)
	r := api.Record{
		V: numberIn(o["v"]), Kind: kindNumbers[textIn(o["kind"])], Saga: numberIn(o["saga"]), Step: numberIn(o["step"]), Try: numberIn(o["try"]), At: numberIn(o["at"]),
		Last: numberIn(o["last"]), Code: numberIn(o["code"]), Count: numberIn(o["count"]), Pivot: numberIn(o["pivot"]), Name: textIn(o["name"]),
	}
	if d, there := o["data"]; there {
		r.Data = bytesIn(d)
	}
	return r
}

// wrongWith is what is wrong with a record of the right shape.
func wrongWith(v any) api.Errno {
	o := v.(object)
	if kindNumbers[textIn(o["kind"])] == 0 {
		return api.ErrState
	}
	for name, item := range o {
		if name != "v" && name != "saga" && (item == json.Number("0") || item == "") {
			return api.ErrState
		}
	}
	return record.Check(recordIn(v))
}

// secondReadRecords is the second reading of ReadRecords.
func secondReadRecords(b []byte) ([]api.Record, api.Errno) {
	if _, e, _ := cjson.Parse(b); e != api.OK {
		return nil, e
	}
	v := value(b)
	if !isListOf(isRecord)(v) {
		return nil, api.ErrShape
	}
	if !rawsAreRight(v) {
		return nil, api.ErrHex
	}
	var out []api.Record
	for _, r := range v.([]any) {
		if e := wrongWith(r); e != api.OK {
			return nil, e
		}
		out = append(out, recordIn(r))
	}
	return out, api.OK
}
