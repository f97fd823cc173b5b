package store_test

import (
	"maps"
	"math/rand"
	"slices"
	"strconv"
	"strings"
	"testing"

	"refit/api"
	"refit/sector"
	"refit/store"
)

// P10.5: crashes, and what P10.3 and P10.4 say of a device that fails

// operation is a call of a store with the writes that it makes: those of a snapshot and its head, and those of a batch.
type operation struct {
	name     string
	sectors  int
	history  [][]api.Change // committed before; nil is a Squeeze
	commit   []api.Change   // nil: the call is a Squeeze
	snapshot int            // the sectors of the snapshot; 0: there is none
	frames   int            // of the batch; 0: there is none
	found    int            // the batches of a store that is opened before
	before   string
	after    string
}

func operations() []operation {
	long := strings.Repeat("long", 28)
	ab, b3 := []api.Change{set("a", "1"), set("b", "2")}, []api.Change{gone("a"), set("b", "3")}
	bLong := []api.Change{gone("a"), set("b", long)}
	type lists = [][]api.Change
	return []operation{
		{"a short Commit", 24, lists{ab}, b3, 0, 1, 1, "a=1 b=2", "b=3"},
		{"the first Commit", 16, nil, ab, 0, 1, 0, "", "a=1 b=2"},
		{"a long Commit", 24, lists{ab}, bLong, 0, 3, 1, "a=1 b=2", "b=" + long},
		{"a Commit behind a snapshot", 16, lists{ab, nil}, b3, 0, 1, 0, "a=1 b=2", "b=3"},
		{"a long Commit over old batches", 16, lists{bLong, ab, nil}, bLong, 0, 3, 0, "a=1 b=2", "b=" + long},
		{"a Commit with a snapshot", 16, lists{ab, ab, ab, ab}, b3, 1, 1, 4, "a=1 b=2", "b=3"},
		{"a Commit with the second snapshot", 16, lists{ab, nil, ab, ab, ab, ab}, b3, 1, 1, 4, "a=1 b=2", "b=3"},
		{"a Commit with the third snapshot", 16, lists{b3, nil, ab, nil, ab, ab, ab, ab}, b3, 1, 1, 4, "a=1 b=2", "b=3"},
		{"a long Commit with a snapshot", 16, lists{ab, ab}, bLong, 1, 3, 2, "a=1 b=2", "b=" + long},
		{"a Commit with a long snapshot", 18, lists{bLong, {gone("none")}}, ab, 2, 1, 2, "b=" + long, "a=1 b=2"},
		{"the first Squeeze", 16, lists{ab}, nil, 1, 0, 1, "a=1 b=2", "a=1 b=2"},
		{"the second Squeeze", 16, lists{ab, nil, b3}, nil, 1, 0, 1, "b=3", "b=3"},
		{"the third Squeeze", 16, lists{ab, nil, b3, nil}, nil, 1, 0, 0, "b=3", "b=3"},
		{"the Squeeze of nothing", 16, nil, nil, 1, 0, 0, "", ""},
		{"a long Squeeze", 24, lists{{set("a", long), set("b", long)}}, nil, 4, 0, 1, "a=" + long + " b=" + long, "a=" + long + " b=" + long},
	}
}

// headWritten is how many calls of the device there are up to the writing of the head.
func (o operation) headWritten() int { return o.snapshot + 2 }

func (o operation) calls() int {
	n := 0
	if o.snapshot > 0 {
		n += o.headWritten() + 1
	}
	if o.frames > 0 {
		n += o.frames + 1
	}
	return n
}

// begin makes the store in the state before the call.
func (o operation) begin(t *testing.T) (*sector.Device, *store.Store) {
	t.Helper()
	d, s := fresh(t, o.sectors)
	for _, l := range o.history {
		if l == nil {
			squeezeOK(t, s)
		} else {
			commitOK(t, s, l...)
		}
	}
	return d, s
}

func (o operation) do(s *store.Store) api.Errno {
	if o.commit == nil {
		return s.Squeeze()
	}
	return s.Commit(o.commit)
}

// state is what a store has: its batches, and its keys and values.
type state struct {
	found int
	keys  string
}

// left is what a store has that is opened after so many calls, if what is waiting is durable then or not.
func (o operation) left(limit int, durable bool) state {
	now := state{o.found, o.before}
	if o.snapshot > 0 && (limit > o.headWritten() || limit == o.headWritten() && durable) {
		now.found = 0
	}
	if o.frames > 0 && limit == o.calls()-1 && durable {
		now = state{now.found + 1, o.after}
	}
	return now
}

// tears returns every choice of one of the sizes for each of so many writes.
func tears(writes int, sizes ...int) [][]int {
	all := [][]int{nil}
	for range writes {
		var longer [][]int
		for _, l := range all {
			for _, size := range sizes {
				longer = append(longer, append(slices.Clone(l), size))
			}
		}
		all = longer
	}
	return all
}

// someTears returns choices of tears for so many writes: all that there are for one, fewer for more.
func someTears(writes int) [][]int {
	switch writes {
	case 0:
		return [][]int{nil}
	case 1:
		var sizes []int
		for size := range api.SectorSize + 1 {
			sizes = append(sizes, size)
		}
		return tears(1, sizes...)
	case 2, 3:
		return tears(writes, 0, 8, 30, 59, 64)
	}
	return tears(writes, 0, 30, 64)
}

// kept reports whether a crash keeps so many bytes of each write.
func kept(tear []int, size int) bool {
	return !slices.ContainsFunc(tear, func(n int) bool { return n < size })
}

func stateOf(s *store.Store) state { return state{s.Commits(), keysOf(s)} }

// wantReopened opens a device twice, and checks that the store has one of two states, the same one each time, and that it can be used.
func wantReopened(t *testing.T, d *sector.Device, one, two state) {
	t.Helper()
	s := opened(t, d)
	now := stateOf(s)
	if now != one && now != two {
		t.Fatalf("the reopened store has %.200v, want %.200v or %.200v", now, one, two)
	}
	s = opened(t, d)
	wantStore(t, s, now.found, now.keys)
	commitOK(t, s, set("z", "later"))
	want := strings.TrimSpace(now.keys + " z=later")
	wantStore(t, s, now.found+1, want)
	if s = opened(t, d); keysOf(s) != want {
		t.Errorf("opened once more, the store has %.200q, want %.200q", keysOf(s), want)
	}
	squeezeOK(t, s)
	d.Crash()
	wantStore(t, opened(t, d), 0, want)
}

func TestOperations(t *testing.T) {
	for _, o := range operations() {
		d, s := o.begin(t)
		wantDurable(t, d, o.found, o.before)
		n := calls(d, func() { wantErr(t, o.name, o.do(s), api.OK) })
		if n != o.calls() {
			t.Errorf("%s makes %d calls, want %d", o.name, n, o.calls())
		}
		found := o.found
		if o.snapshot > 0 {
			found = 0
		}
		if o.frames > 0 {
			found++
		}
		wantDurable(t, d, found, o.after)
		d.Limit(0)
		d.Crash()
		wantDurable(t, d, found, o.after)
	}
}

// A crash at each call, with what is waiting then kept, lost and torn.
func TestCrashAtEachCall(t *testing.T) {
	for _, o := range operations() {
		for limit := range o.calls() {
			d, s := o.begin(t)
			d.Limit(limit)
			o.do(s)
			for _, tear := range someTears(d.Waiting()) {
				d, s := o.begin(t)
				commits := s.Commits()
				d.Limit(limit)
				wantErr(t, o.name, o.do(s), api.ErrDown)
				wantDown(t, s, commits, o.before)
				d.Crash(tear...)
				wantDown(t, s, commits, o.before)
				// The last bytes of a mark may be the same as those that were there.
				wantReopened(t, d, o.left(limit, kept(tear, 64)), o.left(limit, kept(tear, 60)))
				if t.Failed() {
					t.Fatalf("%s, with the limit %d and the tears %v", o.name, limit, tear)
				}
			}
		}
	}
}

// The same with crashes of the openings behind it, each of them at the write or the flush of the log's head.
func TestCrashOfTheOpeningBehindACrash(t *testing.T) {
	for _, o := range operations() {
		for limit := range o.calls() {
			for _, size := range []int{0, 59, 64} {
				for _, open := range []struct{ limit, tear int }{{0, 0}, {1, 0}, {1, 8}, {1, 30}, {1, 59}, {1, 63}, {1, 64}} {
					d, s := o.begin(t)
					d.Limit(limit)
					o.do(s)
					d.Crash(slices.Repeat([]int{size}, d.Waiting())...)
					for range 3 {
						d.Limit(open.limit)
						noOpen(t, d, api.ErrDown)
						d.Crash(open.tear)
					}
					want := o.left(limit, size == 64)
					wantReopened(t, d, want, want)
					if t.Failed() {
						t.Fatalf("%s, with the limit %d, the tears %d and the opening's %v", o.name, limit, size, open)
					}
				}
			}
		}
	}
}

func TestCrashOfAnOpen(t *testing.T) {
	for _, o := range operations() {
		for tear := range api.SectorSize + 1 {
			d, _ := o.begin(t)
			for limit := range 2 {
				d.Limit(limit)
				noOpen(t, d, api.ErrDown)
				d.Crash(tear)
			}
			want := state{o.found, o.before}
			wantReopened(t, d, want, want)
			if t.Failed() {
				t.Fatalf("before %s, with the tear %d", o.name, tear)
			}
		}
	}
}

// A device that goes off behind the head that an opening writes, where the snapshot is read.
func TestCrashBehindTheHeadOfAnOpen(t *testing.T) {
	for _, o := range operations() {
		d, _ := o.begin(t)
		hasSnapshot := headOf(t, d) != ""
		d.Limit(2)
		if hasSnapshot {
			noOpen(t, d, api.ErrDown)
		} else {
			wantStore(t, opened(t, d), o.found, o.before)
		}
		d.Crash()
		want := state{o.found, o.before}
		wantReopened(t, d, want, want)
	}
}

// The example of the chapter.
func TestExample(t *testing.T) {
	for limit := range 2 {
		for tear := range api.SectorSize + 1 {
			d, s := fresh(t, 16)
			commitOK(t, s, set("a", "1"), set("b", "2"))
			d.Limit(limit)
			wantErr(t, "Commit", s.Commit([]api.Change{gone("a"), set("b", "3")}), api.ErrDown)
			d.Crash(tear)
			s = opened(t, d)
			if limit == 1 && tear == api.SectorSize {
				wantStore(t, s, 2, "b=3")
			} else {
				wantStore(t, s, 1, "a=1 b=2")
			}
		}
	}
}

// A device that is on again without a crash has what was written, flushed or not; the store that has failed stays down.
func TestDeviceThatIsOnAgain(t *testing.T) {
	for _, o := range operations() {
		for limit := range o.calls() {
			d, s := o.begin(t)
			commits := s.Commits()
			d.Limit(limit)
			wantErr(t, o.name, o.do(s), api.ErrDown)
			d.Limit(1000)
			wantDown(t, s, commits, o.before)
			check := untouched(t, d)
			wantErr(t, o.name, o.do(s), api.ErrDown)
			check()
			want := o.left(limit, true)
			wantReopened(t, d, want, want)
			if t.Failed() {
				t.Fatalf("%s, with the limit %d", o.name, limit)
			}
		}
	}
}

// step makes the i-th call of a long history.
func step(s *store.Store, i int) api.Errno {
	if i%17 == 16 {
		return s.Squeeze()
	}
	l := []api.Change{set("n", strconv.Itoa(i)), set("k"+strconv.Itoa(i%5), strings.Repeat("x", i%40))}
	if i%3 == 0 {
		l = append(l, gone("k"+strconv.Itoa((i+2)%5)))
	}
	return s.Commit(l)
}

// milestone is how many calls of the device the first steps make, and what the store tells then.
type milestone struct {
	calls int
	state state
}

// milestones returns those before each step, and the one behind the last step.
func milestones(t *testing.T, sectors, steps int) []milestone {
	t.Helper()
	d, s := fresh(t, sectors)
	begin := d.Calls()
	l := []milestone{{0, stateOf(s)}}
	for i := range steps {
		wantErr(t, "step "+strconv.Itoa(i), step(s, i), api.OK)
		l = append(l, milestone{d.Calls() - begin, stateOf(s)})
	}
	return l
}

// Whatever call of a long history is the first that fails, all that returned OK before it is there.
func TestDeviceThatFailsAtSomeCall(t *testing.T) {
	const sectors, steps = 30, 60
	l := milestones(t, sectors, steps)
	for limit := range l[steps].calls {
		for _, tear := range []int{0, 40, 64} {
			d, s := fresh(t, sectors)
			d.Limit(limit)
			i := 0
			for step(s, i) == api.OK {
				i++
			}
			if l[i].calls > limit || l[i+1].calls <= limit {
				t.Fatalf("with the limit %d, step %d fails, which makes the calls from %d to %d", limit, i, l[i].calls, l[i+1].calls)
			}
			wantDown(t, s, l[i].state.found, l[i].state.keys)
			d.Crash(slices.Repeat([]int{tear}, d.Waiting())...)
			want := l[i].state.keys
			if limit == l[i+1].calls-1 && tear == 64 {
				want = l[i+1].state.keys
			}
			for range 2 {
				if got := keysOf(opened(t, d)); got != want {
					t.Fatalf("with the limit %d and the tears %d, the reopened store has %q, want %q", limit, tear, got, want)
				}
			}
		}
	}
}

// history is a device under random calls, and what its store must have.
type history struct {
	t      *testing.T
	r      *rand.Rand
	d      *sector.Device
	s      *store.Store
	keys   map[string]string
	count  int // the Commits
	found  int // the batches in the log
	frames int // that these take
}

// next is the state that a call leads to.
type next struct {
	keys          map[string]string
	found, frames int
}

func (h *history) now() next { return next{h.keys, h.found, h.frames} }

func (h *history) crash() {
	var l []int
	for range h.d.Waiting() {
		l = append(l, []int{0, h.r.Intn(65), 64, 64}[h.r.Intn(4)])
	}
	h.d.Crash(l...)
}

func (h *history) snapshotSize() int {
	var l []string
	for _, k := range slices.Sorted(maps.Keys(h.keys)) {
		l = append(l, k, h.keys[k])
	}
	return len(snapshot(l...))
}

func (h *history) changes() []api.Change {
	var l []api.Change
	for range 1 + h.r.Intn(4) {
		k := string([]byte{byte('a' + h.r.Intn(8))})
		if h.r.Intn(3) == 0 {
			l = append(l, gone(k))
		} else {
			l = append(l, set(k, strings.Repeat(string([]byte{byte('A' + h.r.Intn(26))}), h.r.Intn(60))))
		}
	}
	return l
}

func applied(keys map[string]string, l []api.Change) map[string]string {
	keys = maps.Clone(keys)
	for _, c := range l {
		if c.Gone {
			delete(keys, c.Key)
		} else {
			keys[c.Key] = c.Value
		}
	}
	return keys
}

// commit makes a Commit; whether there is room for it is known ahead.
func (h *history) commit() {
	h.t.Helper()
	l := h.changes()
	need, free := framesOf(len(batch(l...))), framesIn(h.d.Sectors())-h.frames
	size, room := h.snapshotSize(), halfIn(h.d.Sectors())*api.SectorSize
	after := next{applied(h.keys, l), h.found + 1, h.frames + need}
	made, states := 0, []next{h.now()}
	if need > free {
		if size > room {
			wantErr(h.t, "Commit without room for a snapshot", h.s.Commit(l), api.ErrFull)
			return
		}
		made = sectorsOf(size) + 3
		states = append(states, next{h.keys, 0, 0})
		after.found, after.frames = 1, need
	}
	do := func() api.Errno { return h.s.Commit(l) }
	if need > framesIn(h.d.Sectors()) {
		h.call(made, do, api.ErrFull, states...)
	} else if h.call(made+need+1, do, api.OK, append(states, after)...) {
		h.count++
	}
}

func (h *history) squeeze() {
	h.t.Helper()
	size := h.snapshotSize()
	if size > halfIn(h.d.Sectors())*api.SectorSize {
		wantErr(h.t, "Squeeze without room", h.s.Squeeze(), api.ErrFull)
		return
	}
	h.call(sectorsOf(size)+3, h.s.Squeeze, api.OK, h.now(), next{h.keys, 0, 0})
}

// call does what needs so many calls of the device, which may be off before. It leads to the last of some states, or, with a crash, to any of them.
func (h *history) call(needs int, do func() api.Errno, want api.Errno, states ...next) bool {
	h.t.Helper()
	limit := h.r.Intn(4 * needs)
	h.d.Limit(limit)
	if limit >= needs {
		wantErr(h.t, "a call", do(), want)
		h.to(states[len(states)-1])
		return true
	}
	before := stateOf(h.s)
	wantErr(h.t, "a call on a device that goes off", do(), api.ErrDown)
	wantDown(h.t, h.s, before.found, before.keys)
	h.crash()
	h.reopen(states...)
	return false
}

func (h *history) to(n next) { h.keys, h.found, h.frames = n.keys, n.found, n.frames }

// reopen opens the store, with crashes before it succeeds: it has one of the states.
func (h *history) reopen(states ...next) {
	h.t.Helper()
	for h.r.Intn(3) == 0 {
		h.d.Limit(h.r.Intn(2))
		noOpen(h.t, h.d, api.ErrDown)
		h.crash()
	}
	h.s = opened(h.t, h.d)
	h.count = h.s.Commits()
	got := maps.Collect(h.s.Tree().From(""))
	for _, n := range states {
		if n.found == h.count && maps.Equal(got, n.keys) {
			h.to(n)
			return
		}
	}
	h.t.Fatalf("the reopened store has %d batches and %.300v, want one of %.2000v", h.count, got, states)
}

func (h *history) check() {
	h.t.Helper()
	if got := maps.Collect(h.s.Tree().From("")); !maps.Equal(got, h.keys) || h.s.Tree().Len() != len(h.keys) {
		h.t.Errorf("the store has %.300v, want %.300v", got, h.keys)
	}
	if h.s.Commits() != h.count || h.s.Down() {
		h.t.Errorf("Commits is %d, Down %t, want %d, false", h.s.Commits(), h.s.Down(), h.count)
	}
	k := string([]byte{byte('a' + h.r.Intn(9))})
	want, has := h.keys[k]
	if got, ok := h.s.Get(k); got != want || ok != has {
		h.t.Errorf("Get(%q) is %q, %t, want %q, %t", k, got, ok, want, has)
	}
}

func TestManyCrashes(t *testing.T) {
	for seed := range int64(300) {
		r := rand.New(rand.NewSource(seed))
		h := &history{t: t, r: r, d: device(t, 16+r.Intn(30)), keys: map[string]string{}}
		h.reopen(h.now())
		for range 150 {
			switch r.Intn(12) {
			case 0:
				h.squeeze()
			case 1:
				h.crash() // nothing is waiting
				h.reopen(h.now())
			default:
				h.commit()
			}
			h.check()
			if t.Failed() {
				t.Fatalf("with the seed %d", seed)
			}
		}
	}
}
