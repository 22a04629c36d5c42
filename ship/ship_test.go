package ship_test

import (
	"bytes"
	"encoding/hex"
	"errors"
	"math/rand"
	"slices"
	"strings"
	"testing"

	"annals/api"
	"annals/disk"
	"annals/rewrite"
	"annals/ship"
	"annals/store"
)

// The calls are as the chapter lists them.
var (
	_ func(*store.Store, []byte) ([]byte, error)         = ship.Answer
	_ func(*disk.Disk, int) (*ship.Follower, error)      = ship.Open
	_ func(*ship.Follower) ([]byte, error)               = (*ship.Follower).Ask
	_ func(*ship.Follower, []byte) (bool, error)         = (*ship.Follower).Take
	_ func(*ship.Follower) api.Place                     = (*ship.Follower).Place
	_ func(*ship.Follower) *store.Store                  = (*ship.Follower).Store
	_ func(*store.Store, ...*ship.Follower) (int, error) = ship.Pump
	_ error                                              = (*ship.Fault)(nil)
	_ func(*ship.Fault) error                            = (*ship.Fault).Unwrap
	_                                                    = ship.Fault{Why: "", Err: error(nil)}
)

// unhex is bytes as the document tells them.
func unhex(s string) []byte {
	b, err := hex.DecodeString(strings.ReplaceAll(s, " ", ""))
	if err != nil {
		panic(err)
	}
	return b
}

// Promise 19.1: what a fault says, and what is asked through it.
func TestFault(t *testing.T) {
	for _, c := range []struct {
		f    ship.Fault
		want string
	}{
		{ship.Fault{Why: "answer", Err: api.ErrArg}, "answer: error 1"},
		{ship.Fault{Why: "take", Err: &store.Fault{Op: "replace", At: 3, Err: api.ErrNewer}}, "take: replace #3: error 90"},
		{ship.Fault{Why: "open", Err: &store.Fault{Op: "open", At: -1}}, "open: open: nothing"},
		{ship.Fault{Why: "pump"}, "pump: nothing"},
		{ship.Fault{}, ": nothing"},
		{ship.Fault{Why: "x", Err: &ship.Fault{Why: "y"}}, "x: y: nothing"},
		{ship.Fault{Why: "x", Err: errors.New("z")}, "x: z"},
	} {
		if got := c.f.Error(); got != c.want {
			t.Errorf("%q, not %q", got, c.want)
		}
		if c.f.Unwrap() != c.f.Err {
			t.Errorf("%q: %v", c.want, c.f.Unwrap())
		}
	}
	var err error = &ship.Fault{Why: "take", Err: &store.Fault{Op: "append", At: -1, Err: api.ErrFull}}
	var f *ship.Fault
	var g *store.Fault
	var e api.Errno
	if !errors.Is(err, api.ErrFull) || errors.Is(err, api.ErrDown) || !errors.As(err, &f) || !errors.As(err, &g) || !errors.As(err, &e) || g.Op != "append" || e != api.ErrFull {
		t.Error("an error is not found through the chain")
	}
}

// Promises 19.1 to 19.7: the chapter's examples, in turn.
func TestExamples(t *testing.T) {
	ld := newDisk(t, 4096)
	s, err := store.Open(ld, api.Options{V: 1, Limit: 64})
	must(t, err)
	must(t, s.Append(end(1, 1), end(1, 1), end(1, 1)))
	must(t, s.Sync())
	d, f := follower(t, 4096)
	at := func(want string) {
		t.Helper()
		if place(f) != want {
			t.Errorf("Place is %s, not %s", place(f), want)
		}
	}
	take := func(msg []byte, want bool) {
		t.Helper()
		if ok, err := f.Take(msg); ok != want || err != nil {
			t.Errorf("Take: %v, %v", ok, err)
		}
	}
	refused := func(err error, want string) {
		t.Helper()
		if chain(t, err); err == nil || err.Error() != want {
			t.Errorf("%v, not %s", err, want)
		}
	}
	at("0 0 false")
	ask, err := f.Ask()
	must(t, err)
	if !bytes.Equal(ask, unhex("03 51 00 00 75 34 8f 5e a5")) {
		t.Errorf("the ask: % x", ask)
	}
	first, err := ship.Answer(s, ask)
	must(t, err)
	if !bytes.Equal(first, framed(unhex("41 01 00 03 00 03 04 01 07 02 01 04 01 07 02 01 04 01 07 02 01")...)) {
		t.Errorf("the answer: % x", first)
	}
	take(first, true)
	at("1 3 false")
	if l := listOf(t, f.Store()); !sameRecs(l, []api.Record{end(3, 1), end(3, 1), end(3, 1)}) {
		t.Errorf("%v", l)
	}
	if b, _ := d.Read("FOLLOW"); !bytes.Equal(b, unhex("02 46 01 69 d5 e1 2d a5")) {
		t.Errorf("FOLLOW: % x", b)
	}
	take(first, false)
	if ok, err := round(s, f); ok || err != nil {
		t.Errorf("nothing new: %v, %v", ok, err)
	}
	must(t, s.Append(end(1, 1)))
	if ok, err := round(s, f); ok || err != nil {
		t.Errorf("nothing new is synced: %v, %v", ok, err)
	}
	must(t, s.Sync())
	if n, err := ship.Pump(s, f); n != 1 || err != nil {
		t.Errorf("Pump: %d, %v", n, err)
	}
	at("1 4 false")
	_, err = rewrite.Compact(s)
	must(t, err)
	if n, err := ship.Pump(s, f); n != 1 || err != nil || f.Place() != (api.Place{Epoch: epochOf(s)}) || epochOf(s) < 2 || f.Store().Stat().Top != 1 {
		t.Errorf("Pump: %d, %v, %s", n, err, place(f))
	}
	take(first, false)
	_, err = ship.Answer(s, asked(99, 0))
	refused(err, "answer: error 192")
	_, err = ship.Answer(s, []byte{0})
	refused(err, "answer: error 190")
	_, err = f.Take([]byte{0})
	refused(err, "take: error 191")
	n, err := ship.Pump(s, f, f)
	refused(err, "pump: error 1")
	if n != 0 {
		t.Errorf("%d answers", n)
	}
}

// drawn is a store behind drawn calls, all versions mingled; the same seed draws the same.
func drawn(t *testing.T, seed int64) (*disk.Disk, *store.Store) {
	t.Helper()
	r := rand.New(rand.NewSource(seed))
	d := newDisk(t, 1<<17)
	s, err := store.Open(d, api.Options{V: 1 + r.Intn(3), Limit: 64 + r.Intn(200)})
	must(t, err)
	for range r.Intn(30) {
		switch r.Intn(14) {
		case 0, 1:
			must(t, s.Sync())
		case 2:
			must(t, s.Rotate())
		case 3:
			s.Raise(1 + r.Intn(3))
		case 4:
			must(t, s.Replace(s.Stat().V, r.Intn(200), listOf(t, s)...))
		default:
			must(t, s.Append(drawRecs(r, s.Stat().V, 1+r.Intn(5))...))
		}
	}
	return d, s
}

// Promise 19.2: what is answered to each ask that may come: the synced list from the asked place on, or from its beginning; it changes nothing, and makes no changing call.
func TestAnswer(t *testing.T) {
	t.Parallel()
	seen := map[string]int{}
	for seed := range int64(150) {
		d, s := drawn(t, seed)
		d.Arm(0)
		was := view(d, s)
		list, epoch, top := syncedOf(t, s), epochOf(s), s.Stat().Top
		n := len(list)
		for _, have := range []int{0, 1, 2, n / 2, n - 17, n - 16, n - 15, n - 1, n, n + 1, n + 2} {
			if have < 0 {
				continue
			}
			for _, e := range []int{0, 1, epoch - 1, epoch, epoch + 1, maxNumber} {
				b, err := ship.Answer(s, asked(uint64(e), uint64(have)))
				var want []byte
				switch {
				case e == epoch && have <= len(list):
					want = part(epoch, have, top, list)
				case e < epoch:
					want = part(epoch, 0, top, list)
				}
				if !bytes.Equal(b, want) || want == nil && chain(t, err) != "answer 192" || want != nil && err != nil {
					t.Fatalf("seed %d, epoch %d of %d, %d of %d records: % x, %v", seed, e, epoch, have, len(list), b, err)
				}
			}
		}
		if view(d, s) != was {
			t.Fatalf("seed %d: Answer changes the store", seed)
		}
		for what, is := range map[string]bool{"pending": s.Stat().Pending > 0, "long": len(list) > 16, "empty": len(list) == 0, "epoch": epoch > 1, "old": s.Stat().V < 3} {
			if is {
				seen[what]++
			}
		}
	}
	for _, what := range []string{"pending", "long", "empty", "epoch", "old"} {
		if seen[what] < 5 {
			t.Errorf("%v", seen)
		}
	}
}

// Promise 19.2: an answer has at most 16 records, however great they are.
func TestGreatAnswer(t *testing.T) {
	great := api.Record{V: 3, Kind: api.KBegin, Saga: api.MaxID, At: api.MaxID, Count: 32, Pivot: 32, Name: strings.Repeat("𠀀", 48), Data: make([]byte, api.MaxData)}
	if b := records(great); len(b) < 16384+192 {
		t.Fatalf("%d bytes", len(b))
	}
	list := slices.Repeat([]api.Record{great}, 17)
	_, s := leader(t, 3, list...)
	b, err := ship.Answer(s, asked(0, 0))
	if err != nil || !bytes.Equal(b, part(1, 0, 0, list)) {
		t.Fatalf("%d bytes, %v", len(b), err)
	}
	_, f := follower(t, 1<<21)
	if n, err := ship.Pump(s, f); n != 2 || err != nil || !sameRecs(listOf(t, f.Store()), list) {
		t.Errorf("%d, %v", n, err)
	}
}

// Promises 19.1, 19.2: what comes first.
func TestAnswerOrder(t *testing.T) {
	_, s := leader(t, 1, ends(1, 1, 3)...)
	down, gone := func() *store.Store {
		d, s := leader(t, 1, ends(1, 1, 3)...)
		goDown(d)
		return s
	}, func() *store.Store {
		d, s := leader(t, 1, ends(1, 1, 3)...)
		d.Remove("s1")
		return s
	}
	ahead := asked(2, 0)
	for i, c := range []struct {
		s    *store.Store
		ask  []byte
		want string
	}{
		{nil, nil, "answer 1"}, {nil, ahead, "answer 1"}, {nil, asked(0, 0), "answer 1"},
		{down(), nil, `answer store records "" -1 60`}, {down(), ahead, `answer store records "" -1 60`}, {down(), asked(0, 0), `answer store records "" -1 60`},
		{gone(), nil, `answer store records "" -1 95`}, {gone(), ahead, `answer store records "" -1 95`},
		{s, nil, "answer 190"}, {s, ahead[1:], "answer 190"}, {s, ahead, "answer 192"}, {s, asked(1, 4), "answer 192"}, {s, asked(1, api.MaxID), "answer 192"},
		{s, asked(maxNumber, 0), "answer 192"}, {s, asked(1, 3), ""}, {s, asked(0, 0), ""}, {s, asked(0, api.MaxID), ""},
	} {
		b, err := ship.Answer(c.s, c.ask)
		if chain(t, err) != c.want || (b == nil) != (c.want != "") {
			t.Errorf("row %d: % x, %v, not %q", i, b, err, c.want)
		}
	}
}

// broken is bytes that are near to these and are not these.
func broken(b []byte) [][]byte {
	var out [][]byte
	for n := range b {
		out = append(out, b[:n], b[n+1:], slices.Concat(b[:n], []byte{0}, b[n:]))
		for bit := range 8 {
			x := bytes.Clone(b)
			x[n] ^= 1 << bit
			out = append(out, x)
		}
	}
	return append(out, append(bytes.Clone(b), 0), append(bytes.Clone(b), 'L'), slices.Concat(b, b))
}

// Promise 19.2: an ask is read strictly.
func TestAskIsStrict(t *testing.T) {
	_, s := leader(t, 3, ends(3, 1, 3)...)
	big, wide := "ff ff ff ff ff ff ff ff 7f", "80 80 80 80 80 80 80 80 80 01" // 2^63 - 1, 2^63
	for _, c := range []struct{ body, want string }{
		{"51 00 00", ""}, {"51 01 03", ""}, {"51 00" + big, ""}, {"51 01" + big, "answer 192"}, {"51 80 80 80 80 80 20 00", "answer 192"}, {"51 80 80 80 80 80 20" + big, "answer 192"},
		{"51 81 80 80 80 80 20 00", "answer 190"}, {"51" + big + "00", "answer 190"}, {"51" + wide + "00", "answer 190"}, {"51 00" + wide, "answer 190"}, {"51 00 ff ff ff ff ff ff ff ff ff 01", "answer 190"},
		{"51", "answer 190"}, {"51 00", "answer 190"}, {"51 80", "answer 190"}, {"51 00 80", "answer 190"}, {"51 80 00 00", "answer 190"}, {"51 00 80 00", "answer 190"}, {"51 00 00 00", "answer 190"},
		{"41 00 00", "answer 190"}, {"46 00 00", "answer 190"}, {"71 00 00", "answer 190"}, {"00 00 00", "answer 190"}, {"00 00", "answer 190"},
	} {
		if _, err := ship.Answer(s, framed(unhex(c.body)...)); chain(t, err) != c.want {
			t.Errorf("%s: %v, not %q", c.body, err, c.want)
		}
	}
	for _, ask := range [][]byte{asked(1, 2), asked(0, 0), asked(300, 300)} {
		for _, b := range broken(ask) {
			if _, err := ship.Answer(s, b); chain(t, err) != "answer 190" {
				t.Errorf("% x: %v", b, err)
			}
		}
	}
	for _, b := range [][]byte{nil, {}, answered(1, 0, 0, 0), noted(1, false), noted(1, true)} {
		if _, err := ship.Answer(s, b); chain(t, err) != "answer 190" {
			t.Errorf("% x: %v", b, err)
		}
	}
}
