package store_test

import (
	"fmt"
	"math/rand"
	"regexp"
	"slices"
	"strconv"
	"strings"
	"testing"

	"annals/api"
	"annals/disk"
	"annals/lift"
	"annals/manifest"
	"annals/record"
	"annals/segment"
	"annals/store"
)

// twin is a second, slow reading of the chapter: it keeps the list as a list, and on a disk of its own makes the chapter's changing calls by hand.
type twin struct {
	d       *disk.Disk
	limit   int
	m       api.Manifest
	segs    [][]api.Record // the active one's last
	pending int
}

// change is one changing call.
type change func(d *disk.Disk) api.Errno

func create(name string) change {
	return func(d *disk.Disk) api.Errno { return d.Create(name) }
}

func join(name string, b []byte) change {
	return func(d *disk.Disk) api.Errno { return d.Append(name, b) }
}

func settle(name string) change {
	return func(d *disk.Disk) api.Errno { return d.Sync(name) }
}

func truncate(name string, size int) change {
	return func(d *disk.Disk) api.Errno { return d.Truncate(name, size) }
}

func remove(name string) change {
	return func(d *disk.Disk) api.Errno { return d.Remove(name) }
}

func rename(from, to string) change {
	return func(d *disk.Disk) api.Errno { return d.Rename(from, to) }
}

func syncDir(d *disk.Disk) api.Errno { return d.SyncDir() }

// run makes changing calls one behind the other; false, if the disk goes down at one. The chapter says that nothing else hinders them.
func run(d *disk.Disk, list ...change) bool {
	for _, c := range list {
		e := c(d)
		if e == api.ErrDown {
			return false
		}
		if e != api.OK {
			panic("the twin is hindered: " + e.Error())
		}
	}
	return true
}

// made is the calls that make a file that lasts.
func made(name string, b []byte) []change {
	return []change{create(name), join(name, b), settle(name)}
}

// swapped is the calls that swap a manifest in, where no MANIFEST.tmp is.
func swapped(m api.Manifest) []change {
	return append(made("MANIFEST.tmp", manifestBytes(m)), rename("MANIFEST.tmp", "MANIFEST"), syncDir)
}

func manifestBytes(m api.Manifest) []byte {
	b, e := manifest.Encode(m)
	if e != api.OK {
		panic("a manifest that may not be")
	}
	return b
}

// openBytes is the file of an active segment, sealedBytes that of a closed one.
func openBytes(v int, recs ...api.Record) []byte {
	head, e := segment.Start(v)
	b, e2 := segment.Pack(v, recs...)
	if e != api.OK || e2 != api.OK {
		panic("no segment")
	}
	return slices.Concat(head, b)
}

func sealedBytes(v int, recs ...api.Record) []byte {
	b := openBytes(v, recs...)
	f, e := segment.Footer(b)
	if e != api.OK {
		panic("no footer")
	}
	return slices.Concat(b, f)
}

var segName = regexp.MustCompile(`^s[1-9][0-9]{0,12}$`)

// isStores tells whether a name is a store's.
func isStores(name string) bool {
	if name == "MANIFEST" || name == "MANIFEST.tmp" {
		return true
	}
	if !segName.MatchString(name) {
		return false
	}
	n, _ := strconv.Atoi(name[1:])
	return n <= 1099511627776
}

func nameOf(num int) string { return fmt.Sprint("s", num) }

// refusal is a fault as a text, all fields apart; the empty text is none.
func refusal(op, name string, at int, e api.Errno) string {
	return fmt.Sprintf("%q %q %d %d", op, name, at, int(e))
}

// openTwin is Open by the chapter's words.
func openTwin(d *disk.Disk, o api.Options) (*twin, string) {
	bad := func(name string, e api.Errno) (*twin, string) { return nil, refusal("open", name, -1, e) }
	switch {
	case d == nil:
		return bad("", api.ErrArg)
	case d.Down():
		return bad("", api.ErrDown)
	case o.V < 1 || o.V > 3:
		return bad("", api.ErrVersion)
	case o.Limit < 64 || o.Limit > 65536:
		return bad("", api.ErrOptions)
	}
	b, e := d.Read("MANIFEST")
	if e == api.ErrMissing {
		return makeTwin(d, o)
	}
	m, e := manifest.Decode(b)
	if e != api.OK {
		return bad("MANIFEST", e)
	}
	w := &twin{d: d, limit: o.Limit, m: m}
	for i, seg := range m.Segs {
		b, e := d.Read(nameOf(seg.Num))
		if e == api.ErrMissing {
			return bad(nameOf(seg.Num), api.ErrLost)
		}
		recs, ok := lookAt(m, i, b)
		if !ok {
			return bad(nameOf(seg.Num), api.ErrCorrupt)
		}
		w.segs = append(w.segs, recs)
	}
	if !run(d, w.cleared()...) {
		return bad("", api.ErrDown)
	}
	return w, ""
}

// lookAt is the records of the i-th segment of a manifest, if its file is as it must be.
func lookAt(m api.Manifest, i int, b []byte) ([]api.Record, bool) {
	if i == len(m.Segs)-1 {
		s, e := segment.Scan(b)
		return s.Recs, e == api.OK && s.V == m.V
	}
	s, e := segment.Read(b)
	return s.Recs, len(b) == m.Segs[i].Size && e == api.OK && s.V <= m.V && len(s.Recs) == m.Segs[i].Count
}

// cleared is the changing calls of an Open that has found all to be as it must.
func (w *twin) cleared() []change {
	var out []change
	if b, _ := w.d.Read(w.name()); len(b) != w.size() {
		out = append(out, truncate(w.name(), w.size()))
	}
	out = append(out, settle(w.name()))
	return append(out, swept(w.d, w.m)...)
}

// swept is the calls that remove what a manifest does not name.
func swept(d *disk.Disk, m api.Manifest) []change {
	var out []change
	for _, name := range d.List() {
		named := slices.ContainsFunc(m.Segs, func(s api.Seg) bool { return nameOf(s.Num) == name })
		if isStores(name) && name != "MANIFEST" && !named {
			out = append(out, remove(name))
		}
	}
	if len(out) > 0 {
		out = append(out, syncDir)
	}
	return out
}

// makeTwin makes a store where there is none.
func makeTwin(d *disk.Disk, o api.Options) (*twin, string) {
	w := &twin{d: d, limit: o.Limit, m: api.Manifest{Gen: 1, V: o.V, Next: 2, Segs: []api.Seg{{Num: 1}}}, segs: [][]api.Record{nil}}
	var list []change
	room := d.Free()
	for _, f := range d.Files() {
		if isStores(f.Name) {
			list = append(list, remove(f.Name))
			room += len(f.Data)
		}
	}
	if 5+len(manifestBytes(w.m)) > room {
		return nil, refusal("open", "", -1, api.ErrFull)
	}
	if len(list) > 0 {
		list = append(list, syncDir)
	}
	list = append(list, made("s1", openBytes(o.V))...)
	if !run(d, append(list, swapped(w.m)...)...) {
		return nil, refusal("open", "", -1, api.ErrDown)
	}
	return w, ""
}

// copy is a twin that shares no list with w.
func (w *twin) copy() twin {
	out := *w
	out.m.Segs = slices.Clone(w.m.Segs)
	out.segs = slices.Clone(w.segs)
	return out
}

func (w *twin) active() []api.Record { return w.segs[len(w.segs)-1] }
func (w *twin) name() string         { return nameOf(w.m.Segs[len(w.m.Segs)-1].Num) }
func (w *twin) size() int            { return len(openBytes(w.m.V, w.active()...)) }
func (w *twin) list() []api.Record   { return slices.Concat(w.segs...) }

func (w *twin) stat() api.Stat {
	s := api.Stat{Gen: w.m.Gen, V: w.m.V, Next: w.m.Next, Top: w.m.Top, Segs: len(w.m.Segs), Records: len(w.list()), Pending: w.pending, Size: w.size(), Bytes: w.size()}
	for _, x := range w.m.Segs {
		s.Bytes += x.Size
	}
	return s
}

// begin is the state behind the beginning of a new segment, the calls to it, and its need of room.
func (w *twin) begin(v int) (twin, []change, int) {
	next := w.copy()
	foot := sealedBytes(w.m.V, w.active()...)[w.size():]
	last := len(next.m.Segs) - 1
	next.m.Segs[last].Size = w.size() + len(foot)
	next.m.Segs[last].Count = len(w.active())
	next.m.Segs = append(next.m.Segs, api.Seg{Num: w.m.Next})
	next.m.Gen, next.m.Next, next.m.V = w.m.Gen+1, w.m.Next+1, v
	next.segs = append(next.segs, nil)
	next.pending = 0
	if manifest.Check(next.m) != api.OK {
		return next, nil, 0
	}
	list := []change{join(w.name(), foot), settle(w.name())}
	list = append(list, made(next.name(), openBytes(v))...)
	list = append(list, swapped(next.m)...)
	return next, list, len(foot) + 5 + len(manifestBytes(next.m))
}

// finish asks ahead, makes the calls, and takes the next state over.
func (w *twin) finish(op string, swaps bool, next twin, list []change, need int) string {
	if swaps {
		if e := manifest.Check(next.m); e != api.OK {
			return refusal(op, "MANIFEST", -1, e)
		}
	}
	if need > w.d.Free() {
		return refusal(op, "", -1, api.ErrFull)
	}
	if !run(w.d, list...) {
		return refusal(op, "", -1, api.ErrDown)
	}
	*w = next
	return ""
}

// wrong is the first record that a store of the version v does not take.
func wrong(op string, v int, recs []api.Record) string {
	for i, r := range recs {
		if e := record.Check(r); e != api.OK {
			return refusal(op, "", i, e)
		}
		if r.V > v {
			return refusal(op, "", i, api.ErrNewer)
		}
	}
	return ""
}

func lifted(v int, recs []api.Record) []api.Record {
	var out []api.Record
	for _, r := range recs {
		up, e := lift.Up(r, v)
		if e != api.OK {
			panic("not lifted")
		}
		out = append(out, up)
	}
	return out
}

func (w *twin) append(recs ...api.Record) string {
	if w.d.Down() {
		return refusal("append", "", -1, api.ErrDown)
	}
	if len(recs) > 16 {
		return refusal("append", "", -1, api.ErrBatch)
	}
	if s := wrong("append", w.m.V, recs); s != "" || len(recs) == 0 {
		return s
	}
	up := lifted(w.m.V, recs)
	batch := openBytes(w.m.V, up...)[5:]
	next, need := w.copy(), 0
	var list []change
	swaps := len(w.active()) > 0 && w.size()+len(batch) > w.limit
	if swaps {
		next, list, need = w.begin(w.m.V)
	}
	list = append(list, join(next.name(), batch))
	last := len(next.segs) - 1
	next.segs[last] = slices.Concat(next.segs[last], up)
	next.pending += len(up)
	return w.finish("append", swaps, next, list, need+len(batch))
}

func (w *twin) sync() string {
	if w.d.Down() {
		return refusal("sync", "", -1, api.ErrDown)
	}
	if w.pending == 0 {
		return ""
	}
	next := w.copy()
	next.pending = 0
	return w.finish("sync", false, next, []change{settle(w.name())}, 0)
}

func (w *twin) rotate() string {
	if w.d.Down() {
		return refusal("rotate", "", -1, api.ErrDown)
	}
	if len(w.active()) == 0 {
		return ""
	}
	next, list, need := w.begin(w.m.V)
	return w.finish("rotate", true, next, list, need)
}

func (w *twin) raise(v int) string {
	switch {
	case w.d.Down():
		return refusal("raise", "", -1, api.ErrDown)
	case v < 1 || v > 3:
		return refusal("raise", "", -1, api.ErrVersion)
	case v < w.m.V:
		return refusal("raise", "", -1, api.ErrLower)
	case v == w.m.V:
		return ""
	}
	next, list, need := w.begin(v)
	return w.finish("raise", true, next, list, need)
}

// parted is the records in the segments that Replace fills.
func parted(v, limit int, recs []api.Record) [][]api.Record {
	bound := max(limit, (len(openBytes(v, recs...))-5)/50)
	out := [][]api.Record{nil}
	for _, r := range recs {
		last := len(out) - 1
		if len(out[last]) > 0 && len(openBytes(v, append(slices.Clip(out[last]), r)...)) > bound {
			out = append(out, nil)
			last++
		}
		out[last] = append(out[last], r)
	}
	return out
}

func (w *twin) replace(v, top int, recs ...api.Record) string {
	switch {
	case w.d.Down():
		return refusal("replace", "", -1, api.ErrDown)
	case v < 1 || v > 3:
		return refusal("replace", "", -1, api.ErrVersion)
	case v < w.m.V:
		return refusal("replace", "", -1, api.ErrLower)
	case top < 0:
		return refusal("replace", "", -1, api.ErrArg)
	}
	if s := wrong("replace", v, recs); s != "" {
		return s
	}
	up := lifted(v, recs)
	if len(openBytes(v, up...))-5 > 4194304 {
		return refusal("replace", "", -1, api.ErrFull)
	}
	next := w.copy()
	next.segs = parted(v, w.limit, up)
	next.pending = 0
	next.m = api.Manifest{Gen: w.m.Gen + 1, V: v, Next: w.m.Next + len(next.segs), Top: max(w.m.Top, top)}
	var list []change
	need := 0
	for i, recs := range next.segs {
		b, seg := openBytes(v, recs...), api.Seg{Num: w.m.Next + i}
		if i < len(next.segs)-1 {
			b = sealedBytes(v, recs...)
			seg.Size, seg.Count = len(b), len(recs)
		}
		next.m.Segs = append(next.m.Segs, seg)
		list = append(list, made(nameOf(seg.Num), b)...)
		need += len(b)
	}
	if manifest.Check(next.m) == api.OK {
		list = append(list, swapped(next.m)...)
		need += len(manifestBytes(next.m))
	}
	// The old segments go when the new manifest stands: what is to be removed hangs on the names that there are then.
	var gone []string
	for _, s := range w.m.Segs {
		gone = append(gone, nameOf(s.Num))
	}
	slices.Sort(gone)
	for _, name := range gone {
		list = append(list, remove(name))
	}
	list = append(list, syncDir)
	return w.finish("replace", true, next, list, need)
}

// pair is a store and its twin, each on a disk of its own.
type pair struct {
	d *disk.Disk
	s *store.Store
	w *twin
}

// newPair is both, opened over the same files.
func newPair(t *testing.T, quota int, o api.Options, files ...api.File) *pair {
	t.Helper()
	p := &pair{d: loaded(t, quota, files...), w: &twin{d: loaded(t, quota, files...)}}
	if s := p.open(t, o); s != "" {
		t.Fatalf("Open over %s with %+v: %s", tell(files), o, s)
	}
	return p
}

// arm arms both disks.
func (p *pair) arm(n int) {
	p.d.Arm(n)
	p.w.d.Arm(n)
}

func (p *pair) open(t *testing.T, o api.Options) string {
	t.Helper()
	s, err := store.Open(p.d, o)
	w, want := openTwin(p.w.d, o)
	p.alike(t, "Open", err, want)
	if (err == nil) != (s != nil) {
		t.Fatalf("Open answers %v and %v", s, err)
	}
	if err == nil {
		p.s, p.w = s, w
	}
	if p.s != nil {
		p.hold(t, "Open")
	}
	return want
}

// do makes a call of both, and holds them against each other.
func (p *pair) do(t *testing.T, what string, call func(s *store.Store) error, same func(w *twin) string) string {
	t.Helper()
	err := call(p.s)
	want := same(p.w)
	p.alike(t, what, err, want)
	p.hold(t, what)
	return want
}

func (p *pair) append(t *testing.T, recs ...api.Record) string {
	t.Helper()
	return p.do(t, fmt.Sprint("Append", recs), func(s *store.Store) error { return s.Append(recs...) }, func(w *twin) string { return w.append(recs...) })
}

func (p *pair) sync(t *testing.T) string {
	t.Helper()
	return p.do(t, "Sync", (*store.Store).Sync, (*twin).sync)
}

func (p *pair) rotate(t *testing.T) string {
	t.Helper()
	return p.do(t, "Rotate", (*store.Store).Rotate, (*twin).rotate)
}

func (p *pair) raise(t *testing.T, v int) string {
	t.Helper()
	return p.do(t, fmt.Sprint("Raise ", v), func(s *store.Store) error { return s.Raise(v) }, func(w *twin) string { return w.raise(v) })
}

func (p *pair) replace(t *testing.T, v, top int, recs ...api.Record) string {
	t.Helper()
	return p.do(t, fmt.Sprint("Replace", v, top, len(recs)), func(s *store.Store) error { return s.Replace(v, top, recs...) }, func(w *twin) string { return w.replace(v, top, recs...) })
}

// alike holds an error against what the twin answers, and one disk against the other.
func (p *pair) alike(t *testing.T, what string, err error, want string) {
	t.Helper()
	if got := fields(t, err); got != want {
		t.Fatalf("%s answers %s, the twin %s", what, got, want)
	}
	if got, want := sight(p.d), sight(p.w.d); got != want {
		t.Fatalf("%s, behind which the disk is\n%s\nthe twin's\n%s", what, got, want)
	}
}

// hold holds all that the store tells against the twin.
func (p *pair) hold(t *testing.T, what string) {
	t.Helper()
	if got, want := p.s.Stat(), p.w.stat(); got != want {
		t.Fatalf("%s: Stat is %+v, not %+v", what, got, want)
	}
	if got, want := p.s.Segments(), p.w.m.Segs; !slices.Equal(got, want) {
		t.Fatalf("%s: Segments is %v, not %v", what, got, want)
	}
	was := sight(p.d)
	l, err := p.s.Records()
	b, err2 := p.s.Blobs()
	if p.d.Down() {
		if got, got2 := fields(t, err), fields(t, err2); len(l) != 0 || len(b) != 0 || got != refusal("records", "", -1, api.ErrDown) || got2 != refusal("blobs", "", -1, api.ErrDown) {
			t.Fatalf("%s: on a disk that is down: %v, %s, %v, %s", what, l, got, b, got2)
		}
		return
	}
	if err != nil || !sameRecs(l, p.w.list()) {
		t.Fatalf("%s: Records is %v, %v, not %v", what, l, err, p.w.list())
	}
	p.holdBlobs(t, what, b, err2)
	p.holdLookup(t, what)
	if sight(p.d) != was {
		t.Fatalf("%s: a call that only looks changed the disk", what)
	}
}

func (p *pair) holdBlobs(t *testing.T, what string, b [][]byte, err error) {
	t.Helper()
	if err != nil || len(b) != len(p.w.m.Segs) {
		t.Fatalf("%s: Blobs is %d blobs, %v", what, len(b), err)
	}
	for i, seg := range p.w.m.Segs {
		if want, _ := p.w.d.Read(nameOf(seg.Num)); string(b[i]) != string(want) {
			t.Fatalf("%s: blob %d is % x, not % x", what, i, b[i], want)
		}
	}
}

func (p *pair) holdLookup(t *testing.T, what string) {
	t.Helper()
	for saga := 1; saga < 7; saga++ {
		var want []api.Record
		for _, r := range p.w.list() {
			if r.Saga == saga {
				want = append(want, r)
			}
		}
		if l, err := p.s.Lookup(saga); err != nil || !sameRecs(l, want) {
			t.Fatalf("%s: Lookup(%d) is %v, %v, not %v", what, saga, l, err, want)
		}
	}
}

// drawn makes one drawn call.
func (p *pair) drawn(t *testing.T, r *rand.Rand) string {
	t.Helper()
	switch k := r.Intn(40); {
	case k < 22:
		return p.append(t, drawRecs(r, p.w.m.V, pick(r, 0, 1, 1, 1, 2, 3, 5, 16))...)
	case k < 24:
		return p.append(t, spoiled(r, drawRecs(r, p.w.m.V, pick(r, 1, 2, 5, 16, 17, 18)))...)
	case k < 29:
		return p.sync(t)
	case k < 32:
		return p.rotate(t)
	case k < 34:
		return p.raise(t, pick(r, -1, 0, 1, 1, 2, 2, 3, 4))
	case k < 36:
		return p.replace(t, pick(r, p.w.m.V, p.w.m.V, 1, 2, 3, 4), pick(r, -1, 0, 0, 1, 9, api.MaxID), drawRecs(r, p.w.m.V, r.Intn(30))...)
	case k < 37:
		return p.replace(t, p.w.m.V, 0, spoiled(r, drawRecs(r, p.w.m.V, 1+r.Intn(30)))...)
	}
	return p.open(t, api.Options{V: pick(r, 1, 2, 3, 0, 4), Limit: pick(r, 64, 64, 65, 100, 200, 65536, 63, 65537)})
}

// Promises 9.1 to 9.12, W1: drawn histories on disks of drawn rooms, some of which go down somewhere: each answer, each number, each record and all that can be seen of the disk is as the twin has it.
func TestHistories(t *testing.T) {
	t.Parallel()
	r := rand.New(rand.NewSource(9))
	told := map[string]int{}
	for range 500 {
		quota := pick(r, 20, 31, 60, 100, 150, 200, 300, 500, 1000, 4000, 1<<16)
		p := newPair(t, quota, api.Options{V: 1 + r.Intn(3), Limit: pick(r, 64, 65, 100, 300)})
		p.arm(pick(r, -1, -1, r.Intn(10), r.Intn(100)))
		for range 25 {
			told[p.drawn(t, r)]++
			if p.d.Down() && r.Intn(4) == 0 {
				break
			}
		}
	}
	for _, op := range []string{"open", "append", "sync", "rotate", "raise", "replace"} {
		if told[refusal(op, "", -1, api.ErrDown)] == 0 {
			t.Errorf("%s never found the disk down", op)
		}
		if op != "open" && op != "sync" && told[refusal(op, "", -1, api.ErrFull)] == 0 {
			t.Errorf("%s never wanted room", op)
		}
	}
	for _, op := range []string{"append", "replace"} {
		n := 0
		for s, k := range told {
			if strings.HasPrefix(s, strconv.Quote(op)+` "" 1`) {
				n += k
			}
		}
		if n == 0 {
			t.Errorf("%s never refused a record behind the first", op)
		}
	}
}

// everywhere plays a history to its end again and again, each time with the disks going down one changing call later, till they do not any more.
func everywhere(t *testing.T, start func() *pair, history func(p *pair)) int {
	t.Helper()
	for n := 0; ; n++ {
		p := start()
		p.arm(n)
		history(p)
		if !p.d.Down() {
			return n
		}
	}
}

// Promises 9.2 to 9.7: the changing calls of each call, one by one, in the chapter's order.
func TestEachChangingCall(t *testing.T) {
	o := api.Options{V: 1, Limit: 64}
	bare := func() *pair { return newPair(t, 4096, o) }
	full := func() *pair {
		p := bare()
		p.append(t, ends(1, 1, 2, 3, 1, 2)...)
		return p
	}
	long := func() *pair {
		p := full()
		p.append(t, ends(1, 2, 2, 3, 1, 2)...)
		p.append(t, ends(1, 2, 2)...)
		return p
	}
	rows := []struct {
		name  string
		start func() *pair
		call  func(p *pair)
		calls int
	}{
		{"Append of none", full, func(p *pair) { p.append(t) }, 0},
		{"Append", bare, func(p *pair) { p.append(t, ends(1, 1, 2)...) }, 1},
		{"Append, and a new segment", full, func(p *pair) { p.append(t, ends(1, 1, 2)...) }, 11},
		{"Append that is refused", full, func(p *pair) { p.append(t, ends(2, 1)...) }, 0},
		{"Sync of none", bare, func(p *pair) { p.sync(t) }, 0},
		{"Sync", full, func(p *pair) { p.sync(t) }, 1},
		{"Rotate of none", bare, func(p *pair) { p.rotate(t) }, 0},
		{"Rotate", full, func(p *pair) { p.rotate(t) }, 10},
		{"Raise to the same", full, func(p *pair) { p.raise(t, 1) }, 0},
		{"Raise that is refused", full, func(p *pair) { p.raise(t, 4) }, 0},
		{"Raise", full, func(p *pair) { p.raise(t, 2) }, 10},
		{"Raise of a store without a record", bare, func(p *pair) { p.raise(t, 3) }, 10},
		{"Replace by none", bare, func(p *pair) { p.replace(t, 1, 0) }, 3 + 5 + 2},
		{"Replace", long, func(p *pair) { p.replace(t, 2, 7, ends(1, 1, 2, 3, 4, 5, 6, 7)...) }, 3*2 + 5 + 4},
		{"Replace that is refused", full, func(p *pair) { p.replace(t, 1, -1) }, 0},
		{"Open", full, func(p *pair) { p.open(t, o) }, 1},
		{"Open that is refused", full, func(p *pair) { p.open(t, api.Options{V: 1}) }, 0},
	}
	for _, c := range rows {
		t.Run(c.name, func(t *testing.T) {
			if n := everywhere(t, c.start, c.call); n != c.calls {
				t.Errorf("%d changing calls, want %d", n, c.calls)
			}
		})
	}
}

// Promises 9.2 to 9.7: a drawn history, with the disk going down at each place.
func TestEachPlaceOfHistories(t *testing.T) {
	t.Parallel()
	for seed := range int64(8) {
		quota := pick(rand.New(rand.NewSource(seed)), 120, 300, 4096)
		start := func() *pair { return newPair(t, quota, api.Options{V: 1, Limit: 64}) }
		everywhere(t, start, func(p *pair) {
			r := rand.New(rand.NewSource(seed))
			for range 14 {
				p.drawn(t, r)
			}
		})
	}
}
