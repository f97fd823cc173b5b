package log_test

import (
	"math/rand"
	"slices"
	"strings"
	"testing"

	"refit/api"
	"refit/log"
	"refit/sector"
)

// P7.4: crashes

func TestExample(t *testing.T) {
	d, l := fresh(t, 6)
	appendOK(t, l, "a")
	d.Limit(3)
	wantErr(t, "Append", l.Append([]byte(text(100))), api.ErrDown)
	d.Crash(64, 0, 64)
	l = opened(t, d, 6)
	wantLog(t, l, "", "a")
	wantNumbers(t, l, 2, 5)
}

// tears returns every choice of one of the sizes for each of so many writes.
func tears(writes int, sizes ...int) [][]int {
	all := [][]int{nil}
	for range writes {
		var longer [][]int
		for _, l := range all {
			for _, size := range sizes {
				longer = append(longer, append(slices.Clone(l), size))
			}
		}
		all = longer
	}
	return all
}

// kept reports whether a crash keeps so many writes, each of them whole.
func kept(l []int, writes int) bool {
	return len(l) == writes && !slices.ContainsFunc(l, func(n int) bool { return n < api.SectorSize })
}

// state is what a log has.
type state struct {
	head    string
	batches []string
}

func (s state) plus(batches ...string) state {
	return state{s.head, slices.Concat(s.batches, batches)}
}

// wantReopened opens a device twice, and checks that the log has this state each time, and that it can be used.
func wantReopened(t *testing.T, d *sector.Device, frames int, s state) {
	t.Helper()
	var l *log.Log
	for range 2 {
		l = opened(t, d, frames)
		wantLog(t, l, s.head, s.batches...)
	}
	room := l.Room()
	appendOK(t, l, "later")
	wantLog(t, l, s.head, slices.Concat(s.batches, []string{"later"})...)
	if l.Room() != room-1 {
		t.Errorf("Room is %d, want %d", l.Room(), room-1)
	}
	wantLog(t, opened(t, d, frames), s.head, slices.Concat(s.batches, []string{"later"})...)
}

// Each size of what is kept of the only frame, whose last byte is not zero: without that one it is not there.
func TestCrashOfAShortAppend(t *testing.T) {
	before := state{"head", []string{"a"}}
	for tear := range api.SectorSize + 1 {
		for limit := range 2 {
			d, l := fresh(t, 3)
			resetOK(t, l, "head")
			appendOK(t, l, "a")
			d.Limit(limit)
			wantErr(t, "Append", l.Append([]byte("b")), api.ErrDown)
			d.Crash(tear)
			want := before
			if limit == 1 && tear == api.SectorSize {
				want = before.plus("b")
			}
			wantReopened(t, d, 3, want)
		}
	}
}

// The same over a frame that was there before a Reset, whose mark has another epoch alone: it is all there with the last byte of that.
func TestCrashOfAnAppendOverAnother(t *testing.T) {
	for tear := range api.SectorSize + 1 {
		d, l := fresh(t, 3)
		appendOK(t, l, "a", text(46))
		resetOK(t, l, "head")
		appendOK(t, l, "a")
		d.Limit(1)
		wantErr(t, "Append", l.Append([]byte("b")), api.ErrDown)
		d.Crash(tear)
		want := state{"head", []string{"a"}}
		if tear >= 60 {
			want = want.plus("b")
		}
		wantReopened(t, d, 3, want)
	}
}

// A crash at each call of an Append of four frames, with each of them kept, lost and torn.
func TestCrashOfALongAppend(t *testing.T) {
	long := text(3*api.FrameSize + 5)
	for limit := range 5 {
		for _, tear := range tears(limit, 0, 3, 8, 9, 10, 30, 55, 64) {
			if limit == 4 && slices.ContainsFunc(tear, func(n int) bool { return n == 3 || n == 9 || n == 30 }) {
				continue // eight of each would be many
			}
			d, l := fresh(t, 6)
			appendOK(t, l, "a")
			d.Limit(limit)
			wantErr(t, "Append", l.Append([]byte(long)), api.ErrDown)
			d.Crash(tear...)
			want := state{"", []string{"a"}}
			if kept(tear, 4) {
				want = want.plus(long)
			}
			wantReopened(t, d, 6, want)
			if t.Failed() {
				t.Fatalf("with the limit %d and the tears %v", limit, tear)
			}
		}
	}
}

// Frames that a crash has left do not go on with those of the next Append, whatever a crash leaves of it.
func TestCrashOfTwoAppends(t *testing.T) {
	first, second := strings.Repeat("x", 3*api.FrameSize), strings.Repeat("y", 3*api.FrameSize)
	for _, one := range tears(3, 0, 64) {
		for _, two := range tears(3, 0, 64) {
			d, l := fresh(t, 5)
			appendOK(t, l, "a")
			want := state{"", []string{"a"}}
			for i, c := range []struct {
				batch string
				tear  []int
			}{{first, one}, {second, two}} {
				if l.Room() < 3 {
					break // the first one is there
				}
				d.Limit(3)
				wantErr(t, "Append", l.Append([]byte(c.batch)), api.ErrDown)
				d.Crash(c.tear...)
				if kept(c.tear, 3) {
					want = want.plus(c.batch)
				}
				l = opened(t, d, 5)
				wantLog(t, l, want.head, want.batches...)
				if l.Epoch() != 2+i {
					t.Errorf("Epoch is %d", l.Epoch())
				}
			}
			wantReopened(t, d, 5, want)
			if t.Failed() {
				t.Fatalf("with the tears %v and %v", one, two)
			}
		}
	}
}

// Nor do those of a shorter one.
func TestShortAppendBeforeFramesThatAreLeft(t *testing.T) {
	for _, tear := range tears(3, 0, 64) {
		d, l := fresh(t, 5)
		appendOK(t, l, "a")
		d.Limit(3)
		wantErr(t, "Append", l.Append([]byte(text(3*api.FrameSize))), api.ErrDown)
		d.Crash(tear...)
		want, room := state{"", []string{"a"}}, 3
		if kept(tear, 3) {
			want, room = want.plus(text(3*api.FrameSize)), 0
		}
		l = opened(t, d, 5)
		appendOK(t, l, "b")
		want = want.plus("b")
		for epoch := 2; epoch < 5; epoch++ {
			wantLog(t, l, want.head, want.batches...)
			wantNumbers(t, l, epoch, room)
			l = opened(t, d, 5)
		}
	}
}

func TestCrashOfAReset(t *testing.T) {
	for tear := range api.SectorSize + 1 {
		for limit := range 2 {
			d, l := fresh(t, 4)
			resetOK(t, l, "old")
			appendOK(t, l, "a", "b")
			d.Limit(limit)
			wantErr(t, "Reset", l.Reset([]byte("new")), api.ErrDown)
			d.Crash(tear)
			want := state{"old", []string{"a", "b"}}
			if limit == 1 && tear == api.SectorSize {
				want = state{"new", nil}
			}
			wantReopened(t, d, 4, want)
		}
	}
}

func TestCrashOfAnOpen(t *testing.T) {
	for tear := range api.SectorSize + 1 {
		for limit := range 2 {
			d, l := fresh(t, 6)
			resetOK(t, l, "head")
			appendOK(t, l, "a", text(47))
			for range 3 { // also over what a crash has left of another one
				d.Limit(limit)
				noOpen(t, d, 6, api.ErrDown)
				d.Crash(tear)
			}
			wantReopened(t, d, 6, state{"head", []string{"a", text(47)}})
		}
	}
}

// A device that is on again without a crash still has what was waiting: the next Open makes it durable.
func TestOpenWithoutACrash(t *testing.T) {
	for limit := range 4 {
		d, l := fresh(t, 4)
		appendOK(t, l, "a")
		d.Limit(limit)
		wantErr(t, "Append", l.Append([]byte(text(100))), api.ErrDown)
		d.Limit(100)
		want := state{"", []string{"a"}}
		if limit == 3 {
			want = want.plus(text(100))
		}
		l = opened(t, d, 4)
		wantLog(t, l, want.head, want.batches...)
		wantNumbers(t, l, 2, []int{3, 3, 3, 0}[limit])
		d.Crash()
		wantLog(t, opened(t, d, 4), want.head, want.batches...)
	}
	d, l := fresh(t, 4)
	appendOK(t, l, "a")
	d.Limit(1)
	wantErr(t, "Reset", l.Reset([]byte("new")), api.ErrDown)
	d.Limit(2)
	wantLog(t, opened(t, d, 4), "new")
	d.Crash()
	wantReopened(t, d, 4, state{"new", nil})
}

// A head whose number goes over to the next byte is torn there too.
func TestCrashOfHeadsOfAllNumbers(t *testing.T) {
	for n := uint64(1); n < 600; n++ {
		for _, tear := range []int{0, 6, 7, 8, 17, 56, 61, 62, 63, 64} {
			d := device(t, 4)
			put(t, d, int(n%2), headSector(n, uint32(n), 0, "head"))
			put(t, d, int((n+1)%2), headSector(n-1, uint32(n-1), 0, "older"))
			d.Limit(1)
			noOpen(t, d, 2, api.ErrDown)
			d.Crash(tear)
			if l := opened(t, d, 2); string(l.Head()) != "head" {
				t.Fatalf("behind the number %d with the tear %d, Head is %q", n, tear, l.Head())
			}
		}
	}
}

// history is a device under random calls, and what its log must have.
type history struct {
	t      *testing.T
	r      *rand.Rand
	d      *sector.Device
	l      *log.Log
	frames int
	now    state
	maybe  state // what it may have as well, after a crash
	used   int
	epoch  int
}

func (h *history) crash() {
	var l []int
	for range h.d.Waiting() {
		l = append(l, []int{0, h.r.Intn(65), 64, 64}[h.r.Intn(4)])
	}
	h.d.Crash(l...)
}

// reopen opens the log, with crashes before it succeeds. The first time, it has one of the two states; from then on the same one.
func (h *history) reopen() {
	h.t.Helper()
	for h.r.Intn(3) == 0 {
		h.d.Limit(h.r.Intn(2))
		noOpen(h.t, h.d, h.frames, api.ErrDown)
		h.crash()
	}
	h.l = opened(h.t, h.d, h.frames)
	if got := (state{string(h.l.Head()), batches(h.l)}); got.head == h.maybe.head && slices.Equal(got.batches, h.maybe.batches) {
		h.now = h.maybe
	}
	h.maybe = h.now
	h.used = 0
	for _, b := range h.now.batches {
		h.used += framesOf(len(b))
	}
	if h.l.Epoch() <= h.epoch {
		h.t.Errorf("Epoch is %d, but it was %d", h.l.Epoch(), h.epoch)
	}
	h.epoch = h.l.Epoch()
}

func (h *history) append() {
	h.t.Helper()
	b := strings.Repeat(string([]byte{byte('a' + h.r.Intn(26))}), h.r.Intn(4*api.FrameSize))
	if framesOf(len(b)) > h.frames-h.used {
		wantErr(h.t, "Append without room", h.l.Append([]byte(b)), api.ErrFull)
		return
	}
	calls := framesOf(len(b)) + 1
	if h.limit(calls, func() api.Errno { return h.l.Append([]byte(b)) }, h.now.plus(b)) {
		h.used += framesOf(len(b))
	}
}

func (h *history) reset() {
	h.t.Helper()
	head := strings.Repeat(string([]byte{byte('A' + h.r.Intn(26))}), h.r.Intn(api.HeadSize+1))
	if h.limit(2, func() api.Errno { return h.l.Reset([]byte(head)) }, state{head, nil}) {
		h.used, h.epoch = 0, h.epoch+1
	}
}

// limit does what needs so many calls on a device that may be off before; it returns whether that leads to the next state.
func (h *history) limit(calls int, do func() api.Errno, next state) bool {
	h.t.Helper()
	limit := h.r.Intn(3 * calls)
	h.d.Limit(limit)
	if limit >= calls {
		wantErr(h.t, "a call", do(), api.OK)
		h.now, h.maybe = next, next
		return true
	}
	wantErr(h.t, "a call on a device that goes off", do(), api.ErrDown)
	wantErr(h.t, "Append", h.l.Append(nil), api.ErrDown)
	wantLog(h.t, h.l, h.now.head, h.now.batches...)
	wantNumbers(h.t, h.l, h.epoch, 0)
	h.maybe = next
	h.crash()
	h.reopen()
	return false
}

func TestManyCrashes(t *testing.T) {
	for seed := range int64(300) {
		r := rand.New(rand.NewSource(seed))
		h := &history{t: t, r: r, frames: 1 + r.Intn(12)}
		h.d = device(t, h.frames+2)
		h.reopen()
		for range 150 {
			switch r.Intn(10) {
			case 0:
				h.reset()
			case 1:
				h.crash() // nothing is waiting
				h.reopen()
			default:
				h.append()
			}
			wantLog(t, h.l, h.now.head, h.now.batches...)
			wantNumbers(t, h.l, h.epoch, h.frames-h.used)
			if t.Failed() {
				t.Fatalf("with the seed %d", seed)
			}
		}
	}
}
