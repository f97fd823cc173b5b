package log_test

import (
	"encoding/binary"
	"math"
	"slices"
	"strconv"
	"strings"
	"testing"

	"refit/api"
	"refit/log"
	"refit/sector"
)

const (
	least    = math.MinInt
	most     = math.MaxInt
	maxEpoch = math.MaxUint32
)

// headSector is a sector with a head, as the chapter's format says.
func headSector(n uint64, epoch, base uint32, contents string) []byte {
	b := binary.BigEndian.AppendUint64(nil, n)
	b = binary.BigEndian.AppendUint32(b, epoch)
	b = binary.BigEndian.AppendUint32(b, base)
	b = append(b, byte(len(contents)))
	b = append(b, contents...)
	b = append(b, make([]byte, 56-len(b))...)
	return binary.BigEndian.AppendUint64(b, n)
}

// frameSector is a sector with a frame, as the chapter's format says.
func frameSector(epoch, k uint32, last byte, contents string) []byte {
	b := binary.BigEndian.AppendUint32(nil, epoch)
	b = binary.BigEndian.AppendUint32(b, k)
	b = append(b, last, byte(len(contents)))
	b = append(b, contents...)
	b = append(b, make([]byte, 56-len(b))...)
	return append(b, b[:8]...)
}

func with(b []byte, at int, c byte) []byte {
	b = slices.Clone(b)
	b[at] = c
	return b
}

// text is as many bytes as are asked for, of which neighbours differ, also those that are a frame apart.
func text(size int) string {
	b := make([]byte, size)
	for i := range b {
		b[i] = byte(1 + i%251)
	}
	return string(b)
}

func device(t *testing.T, sectors int) *sector.Device {
	t.Helper()
	d, err := sector.New(sectors)
	if err != api.OK {
		t.Fatalf("sector.New(%d) is %v", sectors, err)
	}
	return d
}

// put makes b the durable contents of a sector.
func put(t *testing.T, d *sector.Device, i int, b []byte) {
	t.Helper()
	if err := d.Write(i, b); err != api.OK {
		t.Fatalf("Write(%d) is %v", i, err)
	}
	if err := d.Flush(); err != api.OK {
		t.Fatalf("Flush is %v", err)
	}
}

// all returns the contents of all sectors of a device that is on.
func all(t *testing.T, d *sector.Device) []string {
	t.Helper()
	var l []string
	for i := range d.Sectors() {
		b, err := d.Read(i)
		if err != api.OK {
			t.Fatalf("Read(%d) is %v", i, err)
		}
		l = append(l, string(b))
	}
	return l
}

func wantSector(t *testing.T, d *sector.Device, i int, want []byte) {
	t.Helper()
	if b, err := d.Read(i); string(b) != string(want) || err != api.OK {
		t.Errorf("sector %d is\n%x, %v, want\n%x", i, b, err, want)
	}
}

func opened(t *testing.T, d *sector.Device, frames int) *log.Log {
	t.Helper()
	l, err := log.Open(d, frames)
	if l == nil || err != api.OK {
		t.Fatalf("Open is %v, %v", l, err)
	}
	return l
}

func noOpen(t *testing.T, d *sector.Device, frames int, want api.Errno) {
	t.Helper()
	if l, err := log.Open(d, frames); l != nil || err != want {
		t.Errorf("Open(%d) is %v, %v, want %v", frames, l, err, want)
	}
}

// fresh is a new log on a device that has just enough sectors.
func fresh(t *testing.T, frames int) (*sector.Device, *log.Log) {
	t.Helper()
	d := device(t, frames+2)
	return d, opened(t, d, frames)
}

func wantErr(t *testing.T, call string, got, want api.Errno) {
	t.Helper()
	if got != want {
		t.Errorf("%s is %v, want %v", call, got, want)
	}
}

func appendOK(t *testing.T, l *log.Log, batches ...string) {
	t.Helper()
	for _, b := range batches {
		wantErr(t, "Append", l.Append([]byte(b)), api.OK)
	}
}

func resetOK(t *testing.T, l *log.Log, head string) {
	t.Helper()
	wantErr(t, "Reset", l.Reset([]byte(head)), api.OK)
}

func batches(l *log.Log) []string {
	var all []string
	for _, b := range l.Batches() {
		all = append(all, string(b))
	}
	return all
}

func wantLog(t *testing.T, l *log.Log, head string, want ...string) {
	t.Helper()
	if string(l.Head()) != head {
		t.Errorf("Head is %q, want %q", l.Head(), head)
	}
	if got := batches(l); !slices.Equal(got, want) {
		t.Errorf("Batches is %.200q, want %.200q", got, want)
	}
}

func wantNumbers(t *testing.T, l *log.Log, epoch, room int) {
	t.Helper()
	if l.Epoch() != epoch || l.Room() != room {
		t.Errorf("Epoch is %d and Room %d, want %d and %d", l.Epoch(), l.Room(), epoch, room)
	}
}

// framesOf is how many frames an Append of so many bytes needs.
func framesOf(size int) int {
	n := 1
	for size > api.FrameSize {
		n, size = n+1, size-api.FrameSize
	}
	return n
}

// untouched returns a function that checks that since now the device was neither written nor flushed.
func untouched(t *testing.T, d *sector.Device) func() {
	calls, waiting := d.Calls(), d.Waiting()
	return func() {
		t.Helper()
		if d.Calls() != calls || d.Waiting() != waiting {
			t.Errorf("the device was called: Calls is %d, Waiting %d, want %d, %d", d.Calls(), d.Waiting(), calls, waiting)
		}
	}
}

// P7.1: Open and its errors

func TestOpenWithoutADevice(t *testing.T) {
	for _, frames := range []int{least, -1, 0, 1, 6, most} {
		noOpen(t, nil, frames, api.ErrNil)
	}
}

func TestOpenWithAWrongNumberOfFrames(t *testing.T) {
	for _, sectors := range []int{1, 2, 3, 4, 16, api.MaxSectors} {
		d := device(t, sectors)
		check := untouched(t, d)
		for _, frames := range []int{least, least + 1, -api.MaxSectors, -2, -1, 0, sectors - 1, sectors, sectors + 1, 1 << 32, 1<<32 + 1, most - 2, most - 1, most} {
			noOpen(t, d, frames, api.ErrArg)
		}
		check()
		d.Limit(0) // ErrArg is before ErrDown
		noOpen(t, d, 0, api.ErrArg)
		noOpen(t, d, -1, api.ErrArg)
		noOpen(t, d, sectors-1, api.ErrArg)
		noOpen(t, d, most, api.ErrArg)
	}
}

func TestOpenWithJustEnoughSectors(t *testing.T) {
	for _, frames := range []int{1, 2, 3, 14, 254, 255, 256, api.MaxSectors - 2} {
		d := device(t, frames+2)
		noOpen(t, d, frames+1, api.ErrArg)
		l := opened(t, d, frames)
		wantNumbers(t, l, 1, frames)
		for room := frames; room > 0 && !t.Failed(); room = l.Room() {
			appendOK(t, l, text(min(room, 1000)*api.FrameSize))
		}
		want := batches(l)
		l = opened(t, d, frames)
		wantLog(t, l, "", want...)
		wantNumbers(t, l, 2, 0)
	}
}

func TestOpenOfANewDevice(t *testing.T) {
	d := device(t, 9)
	l := opened(t, d, 6)
	wantLog(t, l, "")
	wantNumbers(t, l, 1, 6)
	zero := make([]byte, api.SectorSize)
	wantSector(t, d, 1, headSector(1, 1, 0, ""))
	for _, i := range []int{0, 2, 3, 4, 5, 6, 7, 8} {
		wantSector(t, d, i, zero)
	}
	if d.Calls() != 2 || d.Waiting() != 0 { // one Write and one Flush
		t.Errorf("Calls is %d, Waiting %d", d.Calls(), d.Waiting())
	}
}

func TestOpenAgain(t *testing.T) {
	d, l := fresh(t, 4)
	resetOK(t, l, "head")
	appendOK(t, l, "a", text(47))
	want := all(t, d)
	for n := uint64(3); n < 300; n++ {
		l = opened(t, d, 4)
		wantLog(t, l, "head", "a", text(47))
		wantNumbers(t, l, int(n), 1)
		want[n%2] = string(headSector(n, uint32(n), 2, "head"))
		if !slices.Equal(all(t, d), want) || d.Waiting() != 0 {
			t.Fatalf("after Open %d the sectors are %x, want %x", n, all(t, d), want)
		}
	}
}

func TestOpenWhileOff(t *testing.T) {
	d, l := fresh(t, 4)
	appendOK(t, l, "a")
	for _, limit := range []int{0, -1} {
		d.Limit(limit)
		check := untouched(t, d)
		noOpen(t, d, 4, api.ErrDown)
		noOpen(t, d, 1, api.ErrDown)
		check()
	}
	d.Crash()
	l = opened(t, d, 4)
	wantLog(t, l, "", "a")
	wantNumbers(t, l, 2, 3)
	// Reading comes before the greatest epoch is one too many.
	put(t, d, 0, headSector(100, maxEpoch, 1, ""))
	d.Limit(0)
	noOpen(t, d, 4, api.ErrDown)
}

// The write of the head succeeds, and its flush does not.
func TestOpenThatFails(t *testing.T) {
	for tear := range api.SectorSize + 1 {
		d, l := fresh(t, 4)
		appendOK(t, l, "a")
		calls := d.Calls()
		d.Limit(1)
		noOpen(t, d, 4, api.ErrDown)
		if d.Calls() != calls+1 || d.Waiting() != 1 {
			t.Errorf("Calls is %d, Waiting %d, want %d and 1", d.Calls(), d.Waiting(), calls+1)
		}
		d.Crash(tear)
		l = opened(t, d, 4)
		wantLog(t, l, "", "a")
		if tear == api.SectorSize { // the head of the Open that failed counts
			wantNumbers(t, l, 3, 3)
		} else {
			wantNumbers(t, l, 2, 3)
		}
	}
}

// P7.1 and the format: heads

// wantHead opens a device that has these two sectors and no frames, and checks what the next head is.
func wantHead(t *testing.T, name string, first, second []byte, next []byte) {
	t.Helper()
	d := device(t, 4)
	put(t, d, 0, first)
	put(t, d, 1, second)
	l, err := log.Open(d, 2)
	if err != api.OK {
		t.Errorf("%s: Open is %v", name, err)
		return
	}
	i := int(next[7] % 2)
	if b, _ := d.Read(i); string(b) != string(next) {
		t.Errorf("%s: the next head is\n%x, want\n%x", name, b, next)
	}
	other := [][]byte{second, first}[i]
	if b, _ := d.Read(1 - i); string(b) != string(append(slices.Clone(other), make([]byte, 64-len(other))...)) {
		t.Errorf("%s: the head before it has become %x", name, b)
	}
	epoch := binary.BigEndian.Uint32(next[8:])
	contents := string(next[17 : 17+next[16]])
	if l.Epoch() != int(epoch) || string(l.Head()) != contents || len(l.Batches()) != 0 || l.Room() != 2 {
		t.Errorf("%s: Epoch is %d, Head %q, Batches %q, Room %d", name, l.Epoch(), l.Head(), l.Batches(), l.Room())
	}
}

func TestWhichHead(t *testing.T) {
	long := text(api.HeadSize)
	none := headSector(1, 1, 0, "")
	wantHead(t, "neither", nil, nil, none)
	wantHead(t, "the first", headSector(2, 5, 4, "a"), nil, headSector(3, 6, 4, "a"))
	wantHead(t, "the second", nil, headSector(1, 7, 7, long), headSector(2, 8, 7, long))
	wantHead(t, "the first is greater", headSector(4, 9, 3, "a"), headSector(3, 8, 3, "b"), headSector(5, 10, 3, "a"))
	wantHead(t, "the second is greater", headSector(4, 9, 3, "a"), headSector(5, 10, 3, "b"), headSector(6, 11, 3, "b"))
	wantHead(t, "much greater", headSector(1<<40, 9, 0, "a"), headSector(1<<32+1, 9, 0, "b"), headSector(1<<40+1, 10, 0, "a"))
	wantHead(t, "greater, of a lower epoch", headSector(6, 2, 1, "a"), headSector(5, 10, 3, "b"), headSector(7, 3, 1, "a"))
	wantHead(t, "greater in the last byte alone", headSector(0x0102, 1, 1, ""), headSector(0x00FF, 3, 3, ""), headSector(0x0103, 2, 1, ""))
	wantHead(t, "two that are not valid", headSector(3, 9, 3, "a"), headSector(4, 9, 3, "b"), none)
	wantHead(t, "epoch 0", headSector(2, 0, 0, "a"), nil, headSector(3, 1, 0, "a"))
}

// A head that is not valid leaves the log to the other one, though its number be greater.
func TestHeadsThatAreNotValid(t *testing.T) {
	good := headSector(1, 3, 2, "good")
	next := headSector(2, 4, 2, "good")
	bad := map[string][]byte{
		"no bytes":                  nil,
		"all bytes 255":             slices.Repeat([]byte{255}, api.SectorSize),
		"number 0":                  headSector(0, 9, 2, "bad"),
		"number 2^62":               headSector(1<<62, 9, 2, "bad"),
		"number 2^62+2":             headSector(1<<62+2, 9, 2, "bad"),
		"number 2^63":               headSector(1<<63, 9, 2, "bad"),
		"number 2^64-2":             headSector(1<<64-2, 9, 2, "bad"),
		"number of the other":       headSector(3, 9, 2, "bad"),
		"length 33":                 with(headSector(4, 9, 2, "bad"), 16, 33),
		"length 34":                 with(headSector(4, 9, 2, "bad"), 16, 34),
		"length 128":                with(headSector(4, 9, 2, "bad"), 16, 128),
		"length 255":                with(headSector(4, 9, 2, "bad"), 16, 255),
		"base above the epoch":      headSector(4, 9, 10, "bad"),
		"base far above":            headSector(4, 9, maxEpoch, "bad"),
		"base 1 and epoch 0":        headSector(4, 0, 1, "bad"),
		"base 256 and epoch 255":    headSector(4, 255, 256, "bad"),
		"another number at the end": append(headSector(4, 9, 2, "bad")[:56], headSector(6, 9, 2, "bad")[56:]...),
	}
	for at := range 8 {
		name := "changed byte " + strconv.Itoa(at)
		whole := headSector(4, 9, 2, "bad")
		bad[name] = with(whole, at, whole[at]^2)
		bad[name+" from the end"] = with(whole, 63-at, whole[63-at]^2)
	}
	for name, b := range bad {
		wantHead(t, name, b, good, next)
		wantHead(t, name+", alone", b, nil, headSector(1, 1, 0, ""))
	}
	// The same for the second sector.
	wantHead(t, "second: number of the other", headSector(2, 3, 2, "good"), headSector(4, 9, 2, "bad"), headSector(3, 4, 2, "good"))
	wantHead(t, "second: length 33", headSector(2, 3, 2, "good"), with(headSector(5, 9, 2, "bad"), 16, 33), headSector(3, 4, 2, "good"))
	wantHead(t, "second: number 2^62+1", headSector(2, 3, 2, "good"), headSector(1<<62+1, 9, 2, "bad"), headSector(3, 4, 2, "good"))
}

// Ends of what is valid, and bytes that do not matter.
func TestHeadsThatAreValid(t *testing.T) {
	good := headSector(1, 3, 2, "good")
	long := text(api.HeadSize)
	wantHead(t, "base 0", headSector(2, 9, 0, "a"), good, headSector(3, 10, 0, "a"))
	wantHead(t, "base of the epoch", headSector(2, 9, 9, "a"), good, headSector(3, 10, 9, "a"))
	wantHead(t, "no contents", headSector(2, 9, 2, ""), good, headSector(3, 10, 2, ""))
	wantHead(t, "most contents", headSector(2, 9, 2, long), good, headSector(3, 10, 2, long))
	wantHead(t, "contents of zeros", headSector(2, 9, 2, "\x00\x00"), good, headSector(3, 10, 2, "\x00\x00"))
	wantHead(t, "a number of 62 bits", headSector(1<<62-4, 9, 2, "a"), good, headSector(1<<62-3, 10, 2, "a"))
	wantHead(t, "the greatest number but one", headSector(1<<62-2, 9, 2, "a"), good, headSector(1<<62-1, 10, 2, "a"))
	for at := 20; at < 56; at++ { // behind the contents
		b := with(headSector(2, 9, 2, "abc"), at, 7)
		wantHead(t, "a byte behind the contents", b, good, headSector(3, 10, 2, "abc"))
	}
}

func TestGreatestNumberOfAHead(t *testing.T) {
	// The number behind it is written, as the promise says, though a head with it is not valid.
	first := headSector(2, 1, 0, "")
	wantHead(t, "2^62-1", first, headSector(1<<62-1, 9, 2, "a"), headSector(1<<62, 10, 2, "a"))
}

// P7.1 and the format: frames

// laid returns a device of a head with the epoch 5 and the base 2, and of these frames.
func laid(t *testing.T, frames ...[]byte) *sector.Device {
	t.Helper()
	d := device(t, len(frames)+2)
	put(t, d, 1, headSector(7, 5, 2, "head"))
	for k, b := range frames {
		put(t, d, 2+k, b)
	}
	return d
}

// wantFrames opens a log of these frames and checks its batches and how many frames they take. All that Open writes is a head.
func wantFrames(t *testing.T, name string, frames [][]byte, used int, want ...string) {
	t.Helper()
	d := laid(t, frames...)
	sectors := all(t, d)
	sectors[0] = string(headSector(8, 6, 2, "head"))
	l := opened(t, d, len(frames))
	if got := batches(l); !slices.Equal(got, want) {
		t.Errorf("%s: Batches is %.200q, want %.200q", name, got, want)
	}
	if string(l.Head()) != "head" || l.Epoch() != 6 || l.Room() != len(frames)-used {
		t.Errorf("%s: Head is %q, Epoch %d, Room %d, want room %d", name, l.Head(), l.Epoch(), l.Room(), len(frames)-used)
	}
	if !slices.Equal(all(t, d), sectors) {
		t.Errorf("%s: Open has changed sectors to %x, want %x", name, all(t, d), sectors)
	}
}

func list(frames ...[]byte) [][]byte { return frames }

func TestBatchesOfFrames(t *testing.T) {
	f := frameSector
	full := text(api.FrameSize)
	wantFrames(t, "none", list(nil, nil), 0)
	wantFrames(t, "one", list(f(2, 0, 1, "a"), nil), 1, "a")
	wantFrames(t, "one without bytes", list(f(2, 0, 1, "")), 1, "")
	wantFrames(t, "one that is full", list(f(2, 0, 1, full)), 1, full)
	wantFrames(t, "three", list(f(3, 0, 1, "a"), f(3, 1, 1, ""), f(3, 2, 1, "c"), nil), 3, "a", "", "c")
	wantFrames(t, "of growing epochs", list(f(2, 0, 1, "a"), f(3, 1, 1, "b"), f(5, 2, 1, "c")), 3, "a", "b", "c")
	wantFrames(t, "of several frames", list(f(4, 0, 0, full), f(4, 1, 0, full), f(4, 2, 1, "b"), f(4, 3, 0, "c"), f(4, 4, 1, "")), 5, full+full+"b", "c")
	wantFrames(t, "of frames that are not full", list(f(4, 0, 0, "a"), f(4, 1, 0, ""), f(4, 2, 0, "bc"), f(4, 3, 1, "d")), 4, "abcd")
	wantFrames(t, "of several frames and epochs", list(f(4, 0, 0, "a"), f(4, 1, 1, "b"), f(5, 2, 0, "c"), f(5, 3, 1, "d")), 4, "ab", "cd")
}

// The first frame that is not valid ends the batches, whatever is behind it.
func TestFramesBehindOneThatIsNotValid(t *testing.T) {
	f := frameSector
	wantFrames(t, "the first is missing", list(nil, f(3, 1, 1, "b"), f(3, 2, 1, "c")), 0)
	wantFrames(t, "the second is missing", list(f(3, 0, 1, "a"), nil, f(3, 2, 1, "c")), 1, "a")
	wantFrames(t, "one in a batch is missing", list(f(3, 0, 1, "a"), f(3, 1, 0, "b"), nil, f(3, 3, 1, "d")), 1, "a")
	wantFrames(t, "the last of a batch is missing", list(f(3, 0, 1, "a"), f(3, 1, 0, "b"), f(3, 2, 0, "c"), nil), 1, "a")
	wantFrames(t, "the last of the only batch is missing", list(f(3, 0, 0, "a"), f(3, 1, 0, "b")), 0)
	wantFrames(t, "the first of a batch is missing", list(f(3, 0, 1, "a"), nil, f(3, 2, 0, "c"), f(3, 3, 1, "d")), 1, "a")
	wantFrames(t, "an earlier batch is at its place", list(f(3, 0, 1, "a"), f(2, 1, 1, "b"), f(3, 2, 1, "c")), 1, "a")
}

func TestEpochsOfFrames(t *testing.T) {
	f := frameSector
	wantFrames(t, "below the base", list(f(1, 0, 1, "a")), 0)
	wantFrames(t, "the base", list(f(2, 0, 1, "a")), 1, "a")
	wantFrames(t, "the head's", list(f(5, 0, 1, "a")), 1, "a")
	wantFrames(t, "above the head's", list(f(6, 0, 1, "a")), 0)
	wantFrames(t, "far above the head's", list(f(maxEpoch, 0, 1, "a")), 0)
	wantFrames(t, "above the head's, later", list(f(5, 0, 1, "a"), f(6, 1, 1, "b")), 1, "a")
	wantFrames(t, "below that of the one before", list(f(4, 0, 1, "a"), f(3, 1, 1, "b")), 1, "a")
	wantFrames(t, "below that of the one before, not the base", list(f(2, 0, 1, "a"), f(5, 1, 1, "b"), f(4, 2, 1, "c")), 2, "a", "b")
	wantFrames(t, "two of one batch, greater", list(f(3, 0, 0, "a"), f(4, 1, 1, "b")), 0)
	wantFrames(t, "two of one batch, less", list(f(4, 0, 0, "a"), f(3, 1, 1, "b")), 0)
	wantFrames(t, "two of a later batch", list(f(3, 0, 1, "a"), f(3, 1, 0, "b"), f(4, 2, 1, "c"), f(4, 3, 1, "d")), 1, "a")
	wantFrames(t, "of bytes in the other order", list(f(3<<24, 0, 1, "a")), 0)

	// With a base of 0 there are no frames of the epoch 0.
	d := device(t, 4)
	put(t, d, 1, headSector(7, 5, 0, ""))
	put(t, d, 2, f(0, 0, 1, "a"))
	put(t, d, 3, f(1, 1, 1, "b"))
	wantLog(t, opened(t, d, 2), "")
	put(t, d, 2, f(1, 0, 1, "a"))
	wantLog(t, opened(t, d, 2), "", "a", "b")
	// Without a head there are none at all.
	d = device(t, 4)
	put(t, d, 2, f(1, 0, 1, "a"))
	put(t, d, 3, f(0, 1, 1, "b"))
	wantLog(t, opened(t, d, 2), "")
}

func TestPartsOfFrames(t *testing.T) {
	f := frameSector
	for k := range uint32(3) {
		whole := f(3, k, 1, "ab")
		bad := map[string][]byte{
			"the mark of the frame behind": f(3, k+1, 1, "ab"),
			"the mark of a far frame":      f(3, k+256, 1, "ab"),
			"the mark of another, 2^24 on": f(3, k+1<<24, 1, "ab"),
			"2 behind the mark":            with(whole, 8, 2),
			"3 behind the mark":            with(whole, 8, 3),
			"128 behind the mark":          with(whole, 8, 128),
			"255 behind the mark":          with(whole, 8, 255),
			"length 47":                    with(whole, 9, 47),
			"length 54":                    with(whole, 9, 54),
			"length 55":                    with(whole, 9, 55),
			"length 128":                   with(whole, 9, 128),
			"length 255":                   with(whole, 9, 255),
			"another epoch at the end":     append(slices.Clone(whole[:56]), f(4, k, 1, "ab")[56:]...),
			"another number at the end":    append(slices.Clone(whole[:56]), f(3, k+1, 1, "ab")[56:]...),
			"another epoch in front":       append(slices.Clone(f(4, k, 1, "ab")[:56]), whole[56:]...),
			"all bytes 255":                slices.Repeat([]byte{255}, api.SectorSize),
		}
		if k > 0 {
			bad["the mark of the frame before"] = f(3, k-1, 1, "ab")
			bad["the mark of frame 0"] = f(3, 0, 1, "ab")
		}
		for at := range 8 {
			name := "changed byte " + strconv.Itoa(at)
			bad[name] = with(whole, at, whole[at]^1)
			bad[name+" from the end"] = with(whole, 63-at, whole[63-at]^1)
		}
		for name, b := range bad {
			frames := list(f(3, 0, 1, "x"), f(3, 1, 1, "y"), f(3, 2, 1, "z"), f(3, 3, 1, "!"))
			frames[k] = b
			wantFrames(t, name, frames, int(k), []string{"x", "y", "z"}[:k]...)
		}
	}
}

// Ends of what is valid, and bytes that do not matter.
func TestFramesThatAreValid(t *testing.T) {
	f := frameSector
	for at := 12; at < 56; at++ { // behind the contents
		wantFrames(t, "a byte behind the contents", list(with(f(3, 0, 1, "ab"), at, 7)), 1, "ab")
	}
	for size := range api.FrameSize + 1 {
		wantFrames(t, "a frame's size", list(f(3, 0, 0, text(size)), f(3, 1, 1, text(size))), 2, text(size)+text(size))
	}
	wantFrames(t, "contents of zeros", list(f(3, 0, 1, "\x00\x00")), 1, "\x00\x00")
	// Batches of a log may have more bytes than an Append may.
	var frames [][]byte
	for k := range uint32(api.MaxBatch/api.FrameSize + 10) {
		frames = append(frames, f(3, k, 0, text(api.FrameSize)))
	}
	n := len(frames)
	frames = append(frames, f(3, uint32(n), 1, "end"), f(3, uint32(n+1), 1, "b"))
	wantFrames(t, "many frames", frames, n+2, strings.Repeat(text(api.FrameSize), n)+"end", "b")
}

// Frames behind the given number are none of the log's.
func TestFramesBehindTheLog(t *testing.T) {
	d, l := fresh(t, 5)
	appendOK(t, l, "a", text(2*api.FrameSize), "d", "e")
	for _, c := range []struct{ frames, room, batches int }{{5, 0, 4}, {4, 0, 3}, {3, 0, 2}, {2, 1, 1}, {1, 0, 1}} {
		l = opened(t, d, c.frames)
		wantLog(t, l, "", []string{"a", text(2 * api.FrameSize), "d", "e"}[:c.batches]...)
		if l.Room() != c.room {
			t.Errorf("of %d frames Room is %d, want %d", c.frames, l.Room(), c.room)
		}
	}
	// Nor does Append write there.
	d = device(t, 10)
	l = opened(t, d, 3)
	wantErr(t, "Append", l.Append([]byte(text(3*api.FrameSize+1))), api.ErrFull)
	appendOK(t, l, text(3*api.FrameSize))
	wantErr(t, "Append", l.Append(nil), api.ErrFull)
	for i := 5; i < 10; i++ {
		wantSector(t, d, i, make([]byte, api.SectorSize))
	}
}

// P7.1 to P7.3: the greatest epoch

func TestGreatestEpoch(t *testing.T) {
	d := device(t, 5)
	put(t, d, 1, headSector(9, maxEpoch-2, 3, "head"))
	put(t, d, 2, frameSector(maxEpoch-2, 0, 1, "a"))
	l := opened(t, d, 3)
	wantNumbers(t, l, maxEpoch-1, 2)
	resetOK(t, l, "last")
	wantNumbers(t, l, maxEpoch, 3)
	wantSector(t, d, 1, headSector(11, maxEpoch, maxEpoch, "last"))
	appendOK(t, l, "b")
	wantSector(t, d, 2, frameSector(maxEpoch, 0, 1, "b"))

	check := untouched(t, d)
	sectors := all(t, d)
	wantErr(t, "Reset of too much", l.Reset(make([]byte, api.HeadSize+1)), api.ErrArg)
	wantErr(t, "Reset", l.Reset([]byte("no")), api.ErrFull)
	wantErr(t, "Reset", l.Reset(nil), api.ErrFull)
	for range 2 {
		noOpen(t, d, 3, api.ErrFull)
	}
	check()
	if !slices.Equal(all(t, d), sectors) {
		t.Errorf("the sectors have become %x", all(t, d))
	}
	wantLog(t, l, "last", "b") // it is not down
	wantNumbers(t, l, maxEpoch, 2)
	appendOK(t, l, "c")
	wantLog(t, l, "last", "b", "c")
}

func TestOpenUpToTheGreatestEpoch(t *testing.T) {
	d := device(t, 3)
	put(t, d, 0, headSector(8, maxEpoch-1, maxEpoch-1, ""))
	put(t, d, 2, frameSector(maxEpoch-1, 0, 1, "a"))
	l := opened(t, d, 1)
	wantLog(t, l, "", "a")
	wantNumbers(t, l, maxEpoch, 0)
	wantSector(t, d, 1, headSector(9, maxEpoch, maxEpoch-1, ""))
	noOpen(t, d, 1, api.ErrFull)
	// A frame of that epoch is valid, once the head has it.
	put(t, d, 2, frameSector(maxEpoch, 0, 1, "b"))
	put(t, d, 1, headSector(9, maxEpoch, maxEpoch, ""))
	noOpen(t, d, 1, api.ErrFull)
	d.Limit(0)
	noOpen(t, d, 1, api.ErrDown)
}

// P7.2: Append and Room

func TestAppendOfEachSize(t *testing.T) {
	for _, size := range []int{0, 1, 2, 45, 46, 47, 91, 92, 93, 137, 138, 139, 255, 256, 257, 460, 4600, api.MaxBatch - 1, api.MaxBatch} {
		needs := framesOf(size)
		d, l := fresh(t, needs+1)
		appendOK(t, l, "a")
		calls := d.Calls()
		appendOK(t, l, text(size))
		if d.Calls() != calls+needs+1 || d.Waiting() != 0 { // a write of each frame, and one flush
			t.Errorf("of %d bytes, Calls is %d, want %d, and Waiting %d", size, d.Calls(), calls+needs+1, d.Waiting())
		}
		wantLog(t, l, "", "a", text(size))
		wantNumbers(t, l, 1, 0)
		for k := range needs {
			from, to := k*api.FrameSize, min((k+1)*api.FrameSize, size)
			last := byte(0)
			if k == needs-1 {
				last = 1
			}
			wantSector(t, d, 3+k, frameSector(1, uint32(k+1), last, text(size)[from:to]))
		}
		wantLog(t, opened(t, d, needs+1), "", "a", text(size))
	}
}

func TestAppendOfNothing(t *testing.T) {
	d, l := fresh(t, 3)
	wantErr(t, "Append of nil", l.Append(nil), api.OK)
	wantErr(t, "Append of no bytes", l.Append([]byte{}), api.OK)
	wantNumbers(t, l, 1, 1)
	wantLog(t, l, "", "", "")
	wantSector(t, d, 2, frameSector(1, 0, 1, ""))
	wantSector(t, d, 3, frameSector(1, 1, 1, ""))
	l = opened(t, d, 3)
	wantLog(t, l, "", "", "")
	wantNumbers(t, l, 2, 1)
}

func TestAppendInTheirOrder(t *testing.T) {
	d, l := fresh(t, 8)
	var want []string
	room := 8
	for i, size := range []int{3, 50, 0, 100, 46} {
		wantErr(t, "Append", l.Append([]byte(text(size))), api.OK)
		want = append(want, text(size))
		room -= framesOf(size)
		wantNumbers(t, l, 1+i, room)
		wantLog(t, l, "", want...)
		l = opened(t, d, 8) // the next one has a greater epoch
		wantNumbers(t, l, 2+i, room)
		wantLog(t, l, "", want...)
	}
	for k, epoch := range []uint32{1, 2, 2, 3, 4, 4, 4, 5} {
		b, _ := d.Read(2 + k)
		if binary.BigEndian.Uint32(b) != epoch {
			t.Errorf("frame %d has the epoch %x, want %d", k, b[:4], epoch)
		}
	}
}

// A frame that is shorter than what its sector had before has zeros behind it.
func TestAppendOverOthers(t *testing.T) {
	d, l := fresh(t, 2)
	appendOK(t, l, text(92))
	resetOK(t, l, text(api.HeadSize))
	resetOK(t, l, text(api.HeadSize))
	resetOK(t, l, "h")
	resetOK(t, l, "")
	appendOK(t, l, "b")
	wantSector(t, d, 2, frameSector(5, 0, 1, "b"))
	wantSector(t, d, 0, headSector(4, 4, 4, "h"))
	wantSector(t, d, 1, headSector(5, 5, 5, ""))
}

func TestAppendOfTooMuch(t *testing.T) {
	d, l := fresh(t, 1500)
	appendOK(t, l, "a")
	check := untouched(t, d)
	for _, size := range []int{api.MaxBatch + 1, api.MaxBatch + 2, 2 * api.MaxBatch, 10 * api.MaxBatch} {
		wantErr(t, "Append of too much", l.Append(make([]byte, size)), api.ErrArg)
	}
	check()
	wantLog(t, l, "", "a")
	wantNumbers(t, l, 1, 1499)
	appendOK(t, l, text(api.MaxBatch))
	wantNumbers(t, l, 1, 1499-1425)
}

func TestAppendWithoutRoom(t *testing.T) {
	for _, size := range []int{0, 1, 46, 47, 92, 93, 500, api.MaxBatch} {
		needs := framesOf(size)
		d, l := fresh(t, needs)
		appendOK(t, l, "") // one too few are left
		check := untouched(t, d)
		wantErr(t, "Append without room", l.Append([]byte(text(size))), api.ErrFull)
		wantErr(t, "Append without room", l.Append([]byte(text(size))), api.ErrFull)
		wantErr(t, "Append of too much", l.Append(make([]byte, api.MaxBatch+1)), api.ErrArg)
		check()
		wantLog(t, l, "", "")
		wantNumbers(t, l, 1, needs-1)
		if needs > 1 { // it is not down: what has room can be appended
			appendOK(t, l, text((needs-1)*api.FrameSize))
			wantNumbers(t, l, 1, 0)
			wantErr(t, "Append without room", l.Append(nil), api.ErrFull)
		}
		l = opened(t, d, needs)
		if l.Room() != 0 {
			t.Errorf("Room is %d", l.Room())
		}
		wantErr(t, "Append without room", l.Append(nil), api.ErrFull)
		resetOK(t, l, "")
		appendOK(t, l, text(size))
	}
}

// P7.3: Reset, Head, Batches and Epoch

func TestReset(t *testing.T) {
	for _, size := range []int{0, 1, 2, 31, 32} {
		d, l := fresh(t, 3)
		appendOK(t, l, "a", "b")
		calls := d.Calls()
		resetOK(t, l, text(size))
		if d.Calls() != calls+2 || d.Waiting() != 0 {
			t.Errorf("Calls is %d, want %d, and Waiting %d", d.Calls(), calls+2, d.Waiting())
		}
		wantLog(t, l, text(size))
		wantNumbers(t, l, 2, 3)
		wantSector(t, d, 0, headSector(2, 2, 2, text(size)))
		wantSector(t, d, 1, headSector(1, 1, 0, "")) // the head before it stays
		wantSector(t, d, 2, frameSector(1, 0, 1, "a"))
		l = opened(t, d, 3)
		wantLog(t, l, text(size))
		wantNumbers(t, l, 3, 3)
	}
}

func TestResetToNothing(t *testing.T) {
	for _, b := range [][]byte{nil, {}} {
		d, l := fresh(t, 3)
		resetOK(t, l, "head")
		appendOK(t, l, "a")
		wantErr(t, "Reset to nothing", l.Reset(b), api.OK)
		wantLog(t, l, "")
		wantNumbers(t, l, 3, 3)
		wantSector(t, d, 1, headSector(3, 3, 3, ""))
	}
}

func TestResetToTooMuch(t *testing.T) {
	d, l := fresh(t, 3)
	resetOK(t, l, "head")
	appendOK(t, l, "a")
	check := untouched(t, d)
	for _, size := range []int{33, 34, 64, 255, 256, 256 + 32, 65536, 100_000} {
		wantErr(t, "Reset to too much", l.Reset(make([]byte, size)), api.ErrArg)
	}
	check()
	wantLog(t, l, "head", "a")
	wantNumbers(t, l, 2, 2)
	appendOK(t, l, "b")
}

// What was there before a Reset does not come back, though frames of it are behind those of later batches.
func TestAppendBehindAReset(t *testing.T) {
	d, l := fresh(t, 4)
	appendOK(t, l, "a", "b", "c", "d")
	resetOK(t, l, "one")
	appendOK(t, l, "e")
	wantLog(t, l, "one", "e")
	wantNumbers(t, l, 2, 3)
	l = opened(t, d, 4)
	wantLog(t, l, "one", "e")
	wantNumbers(t, l, 3, 3)
	appendOK(t, l, text(50))
	resetOK(t, l, "two")
	resetOK(t, l, "three")
	wantNumbers(t, l, 5, 4)
	for range 3 {
		l = opened(t, d, 4)
		wantLog(t, l, "three")
	}
	appendOK(t, l, "f")
	wantLog(t, opened(t, d, 4), "three", "f")
}

func TestManyResets(t *testing.T) {
	d, l := fresh(t, 1)
	for i := range 600 {
		appendOK(t, l, "a"+strconv.Itoa(i))
		wantLog(t, opened(t, d, 1), "h"[:min(i, 1)], "a"+strconv.Itoa(i))
		l = opened(t, d, 1)
		resetOK(t, l, "h")
	}
	if l.Epoch() != 1+3*600 {
		t.Errorf("Epoch is %d", l.Epoch())
	}
}

// P7.2 and P7.3: a log that is down

// wantDown checks what still answers, and that nothing is done.
func wantDown(t *testing.T, d *sector.Device, l *log.Log, epoch int, head string, batches ...string) {
	t.Helper()
	check := untouched(t, d)
	wantErr(t, "Append", l.Append([]byte("x")), api.ErrDown)
	wantErr(t, "Append of nil", l.Append(nil), api.ErrDown)
	wantErr(t, "Append of too much", l.Append(make([]byte, api.MaxBatch+1)), api.ErrDown)
	wantErr(t, "Append without room", l.Append(make([]byte, api.MaxBatch)), api.ErrDown)
	wantErr(t, "Reset", l.Reset([]byte("x")), api.ErrDown)
	wantErr(t, "Reset to nil", l.Reset(nil), api.ErrDown)
	wantErr(t, "Reset to too much", l.Reset(make([]byte, api.HeadSize+1)), api.ErrDown)
	check()
	wantLog(t, l, head, batches...)
	wantNumbers(t, l, epoch, 0)
}

func TestAppendThatFails(t *testing.T) {
	for limit := range 4 { // three frames and a flush
		d, l := fresh(t, 5)
		resetOK(t, l, "head")
		appendOK(t, l, "a")
		d.Limit(limit)
		calls := d.Calls()
		wantErr(t, "Append", l.Append([]byte(text(100))), api.ErrDown)
		if d.Calls() != calls+limit || d.Waiting() != limit {
			t.Errorf("Calls is %d, want %d, Waiting %d, want %d", d.Calls(), calls+limit, d.Waiting(), limit)
		}
		wantDown(t, d, l, 2, "head", "a")
		d.Limit(100) // the log stays down when the device is on again
		wantDown(t, d, l, 2, "head", "a")
		d.Crash()
		wantDown(t, d, l, 2, "head", "a")
		l = opened(t, d, 5)
		wantLog(t, l, "head", "a")
		wantNumbers(t, l, 3, 4)
		appendOK(t, l, "b")
		wantLog(t, l, "head", "a", "b")
	}
}

func TestResetThatFails(t *testing.T) {
	for limit := range 2 {
		d, l := fresh(t, 5)
		resetOK(t, l, "head")
		appendOK(t, l, "a")
		d.Limit(limit)
		wantErr(t, "Reset", l.Reset([]byte("new")), api.ErrDown)
		if d.Waiting() != limit {
			t.Errorf("Waiting is %d, want %d", d.Waiting(), limit)
		}
		wantDown(t, d, l, 2, "head", "a")
		d.Limit(100)
		wantDown(t, d, l, 2, "head", "a")
		d.Crash()
		wantDown(t, d, l, 2, "head", "a")
		l = opened(t, d, 5)
		wantLog(t, l, "head", "a")
		wantNumbers(t, l, 3, 4)
	}
}

// A log without room for an epoch or for frames is down too, if its device has failed.
func TestDownBeforeFull(t *testing.T) {
	d := device(t, 3)
	put(t, d, 1, headSector(9, maxEpoch-1, 3, "head"))
	l := opened(t, d, 1)
	d.Limit(0)
	wantErr(t, "Reset", l.Reset(nil), api.ErrFull) // the device is not asked
	wantErr(t, "Append without room", l.Append([]byte(text(47))), api.ErrFull)
	wantErr(t, "Append of too much", l.Append(make([]byte, api.MaxBatch+1)), api.ErrArg)
	wantNumbers(t, l, maxEpoch, 1)
	wantErr(t, "Append", l.Append(nil), api.ErrDown)
	wantDown(t, d, l, maxEpoch, "head")
}

func TestNilLog(t *testing.T) {
	var l *log.Log
	for range 2 {
		wantErr(t, "Append", l.Append([]byte("a")), api.ErrNil)
		wantErr(t, "Append of nil", l.Append(nil), api.ErrNil)
		wantErr(t, "Append of too much", l.Append(make([]byte, api.MaxBatch+1)), api.ErrNil)
		wantErr(t, "Reset", l.Reset([]byte("a")), api.ErrNil)
		wantErr(t, "Reset to nil", l.Reset(nil), api.ErrNil)
		wantErr(t, "Reset to too much", l.Reset(make([]byte, api.HeadSize+1)), api.ErrNil)
		wantLog(t, l, "")
		wantNumbers(t, l, 0, 0)
	}
}

// For the zero Log nothing is promised but that its functions end.
func TestZeroLog(t *testing.T) {
	var l log.Log
	l.Append(nil)
	l.Append([]byte("a"))
	l.Reset([]byte("a"))
	l.Reset(nil)
	l.Head()
	l.Batches()
	l.Room()
	l.Epoch()
}

func TestLogsAreApart(t *testing.T) {
	c, k := fresh(t, 3)
	d, l := fresh(t, 3)
	appendOK(t, k, "a")
	resetOK(t, l, "head")
	d.Limit(0)
	wantErr(t, "Append", l.Append(nil), api.ErrDown)
	appendOK(t, k, "b")
	wantLog(t, k, "", "a", "b")
	wantLog(t, l, "head")
	wantLog(t, opened(t, c, 3), "", "a", "b")
}

// Arguments and results (Rules 4 and 5)

// fill overwrites b and what is spare behind it.
func fill(b []byte) {
	b = b[:cap(b)]
	for i := range b {
		b[i] = '!'
	}
}

func TestResultsAreNewMemory(t *testing.T) {
	d, l := fresh(t, 6)
	resetOK(t, l, "head")
	appendOK(t, l, "a", text(50), "")
	for range 2 { // of a log that has read them too
		for range 2 {
			fill(l.Head())
			got := l.Batches()
			for i, b := range got {
				fill(b)
				for j, c := range got[i+1:] {
					if strings.Contains(string(c), "!!") {
						t.Errorf("batch %d shares memory with batch %d", i, i+1+j)
					}
				}
			}
			clear(got[:cap(got)])
			wantLog(t, l, "head", "a", text(50), "")
		}
		kept, batch := l.Head(), l.Batches()
		appendOK(t, l, "c")
		wantLog(t, l, "head", "a", text(50), "", "c")
		resetOK(t, l, "other")
		appendOK(t, l, "d")
		if string(kept) != "head" || len(batch) != 3 || string(batch[0]) != "a" || string(batch[1]) != text(50) {
			t.Errorf("the results have become %q, %q", kept, batch)
		}
		resetOK(t, l, "head")
		appendOK(t, l, "a", text(50), "")
		l = opened(t, d, 6)
	}
}

func TestArgumentsAreNotKept(t *testing.T) {
	for _, size := range []int{0, 1, 10, 46, 47, 92, 100} {
		d, l := fresh(t, 8)
		whole := []byte(text(150))
		b := whole[:size]
		wantErr(t, "Append", l.Append(b), api.OK)
		if string(whole) != text(150) {
			t.Errorf("the bytes have become %q", whole)
		}
		fill(b)
		wantLog(t, l, "", text(size))
		appendOK(t, l, "b")
		wantLog(t, opened(t, d, 8), "", text(size), "b")
	}
	for _, size := range []int{0, 1, 10, 31, 32} {
		d, l := fresh(t, 4)
		whole := []byte(text(100))
		b := whole[:size]
		wantErr(t, "Reset", l.Reset(b), api.OK)
		if string(whole) != text(100) {
			t.Errorf("the bytes have become %q", whole)
		}
		fill(b)
		wantLog(t, l, text(size))
		wantLog(t, opened(t, d, 4), text(size))
	}
}
