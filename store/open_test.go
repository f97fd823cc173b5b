package store_test

import (
	"math"
	"math/rand"
	"strconv"
	"strings"
	"testing"

	"refit/api"
	"refit/log"
	"refit/sector"
	"refit/store"
)

// P10.1: Open and Commits

// crafted is a device of 24 sectors, with 6 frames and halves of 512 bytes: its log has this head and these batches, and both halves begin with these bytes.
func crafted(t *testing.T, head, half string, batches ...string) *sector.Device {
	t.Helper()
	d := device(t, 24)
	putHalf(t, d, 0, half)
	putHalf(t, d, 1, half)
	l, err := log.Open(d, framesIn(24))
	if err != api.OK {
		t.Fatalf("log.Open is %v", err)
	}
	wantErr(t, "log.Reset", l.Reset([]byte(head)), api.OK)
	for _, b := range batches {
		wantErr(t, "log.Append", l.Append([]byte(b)), api.OK)
	}
	return d
}

// putHalf makes b the beginning of a half, with zeros up to the end of its last sector and other bytes in the sectors behind it.
func putHalf(t *testing.T, d *sector.Device, half int, b string) {
	t.Helper()
	b += strings.Repeat("\x00", sectorsOf(len(b))*api.SectorSize-len(b))
	b += strings.Repeat("\x01", halfIn(d.Sectors())*api.SectorSize-len(b))
	for i := range halfIn(d.Sectors()) {
		put(t, d, startOf(d.Sectors(), half)+i, b[i*api.SectorSize:(i+1)*api.SectorSize])
	}
}

// encoded is the number n as layer 1 writes it, also if it is negative.
func encoded(n int) string {
	if n >= 0 {
		return number(n)
	}
	b := []byte(number(-1 - n))
	b[0] |= 0x80
	return string(b)
}

func TestOpenOfNothing(t *testing.T) {
	noOpen(t, nil, api.ErrNil)
	for sectors := 1; sectors < 16; sectors++ {
		d := device(t, sectors)
		check := untouched(t, d)
		noOpen(t, d, api.ErrArg)
		d.Limit(0)
		noOpen(t, d, api.ErrArg)
		check()
	}
}

func TestOpenOfANewDevice(t *testing.T) {
	for _, sectors := range []int{16, 17, 18, 19, 20, 63, 64, 1000, 65535, 65536} {
		d := device(t, sectors)
		for i := range 3 {
			if n := calls(d, func() { wantStore(t, opened(t, d), 0, "") }); n != 2 || d.Waiting() != 0 {
				t.Errorf("Open %d of %d sectors makes %d calls, and leaves %d writes", i, sectors, n, d.Waiting())
			}
		}
		s := opened(t, d)
		commitOK(t, s, set("a", "1"))
		squeezeOK(t, s)
		commitOK(t, s, set("b", "2"))
		wantStore(t, s, 2, "a=1 b=2")
		wantStore(t, opened(t, d), 1, "a=1 b=2")
	}
}

// A quarter of the sectors are frames, and the log has two sectors more: the halves are behind them.
func TestLayout(t *testing.T) {
	for sectors := 16; sectors < 80; sectors++ {
		d, s := fresh(t, sectors)
		full := sectors / 4
		for i := range full {
			commitOK(t, s, set("a", strconv.Itoa(i)))
		}
		wantHead(t, d, "")
		wantSector(t, d, 2+full, "")
		last := "a=" + strconv.Itoa(full-1)
		wantDurable(t, d, full, last)
		commitOK(t, s, set("b", "1"))
		want := snapshot("a", strconv.Itoa(full-1))
		wantHead(t, d, head(0, len(want)))
		wantSector(t, d, 2+full, want)
		wantDurable(t, d, 1, last+" b=1")
		second := 2 + full + (sectors-2-full)/2
		wantSector(t, d, second, "")
		squeezeOK(t, s)
		wantSector(t, d, second, snapshot("a", strconv.Itoa(full-1), "b", "1"))
		wantDurable(t, d, 0, last+" b=1")
	}
}

func TestOpenOfASnapshotAndBatches(t *testing.T) {
	long := strings.Repeat("k", 1001)
	old := snapshot("a", "old", "b", "", "c", "3")
	empty := snapshot()
	for _, c := range []struct {
		head, half string
		batches    []string
		want       string
	}{
		{"", "", nil, ""},
		{"", old, nil, ""},
		{"", old, []string{batch(set("a", "1"))}, "a=1"},
		{head(0, len(old)), old, nil, "a=old b= c=3"},
		{head(1, len(old)), old, nil, "a=old b= c=3"},
		{head(0, len(empty)), empty, nil, ""},
		{head(1, len(empty)), empty, []string{batch(set("a", "1"))}, "a=1"},
		{head(1, len(old)), old, []string{batch(set("a", "1"), gone("b"))}, "a=1 c=3"},
		{head(1, len(old)), old, []string{batch(gone("a"), gone("b")), batch(gone("c"), gone("c"), set("d", ""))}, "d="},
		{head(0, len(old)), old, []string{batch(set("a", "1"), set("d", "4")), batch(set("a", "2")), batch(gone("d"), set("a", "3"))}, "a=3 b= c=3"},
		{head(0, len(old)), old, []string{batch(gone("a")), batch(set("a", "2"))}, "a=2 b= c=3"},
		{head(0, len(old)), old, []string{batch(set("a", "2")), batch(gone("a"))}, "b= c=3"},
		{"", "", []string{batch(), batch(), batch(set("a", "1")), batch()}, "a=1"},
		{"", "", []string{batch(set("k", "1"), set("k", "2"), gone("k"), set("k", "3"))}, "k=3"},
		{"", "", []string{batch(set("\x00", "zero"), set("\xff", "\x00"))}, "\x00=zero \xff=\x00"},
		{"", "", []string{batch(set("k", strings.Repeat("v", 200)))}, "k=" + strings.Repeat("v", 200)},
	} {
		if c.half == "" {
			c.half = "anything"
		}
		d := crafted(t, c.head, c.half, c.batches...)
		wantDurable(t, d, len(c.batches), c.want)
		s := opened(t, d)
		squeezeOK(t, s)
		wantStore(t, s, len(c.batches), c.want)
		wantDurable(t, d, 0, c.want)
	}
	for _, keys := range [][]string{{"a", "aa", "ab", "b"}, {"\x00", "\x00\x00", "\x01"}, {"Z", "a", "\x7f", "\x80", "\xff", "\xff\x00"}, {"a", long}} {
		var l []string
		for _, k := range keys {
			l = append(l, k, "v")
		}
		b := snapshot(l...)
		d := device(t, 128)
		putHalf(t, d, 0, b)
		put(t, d, 0, headSector(2, 2, 2, head(0, len(b))))
		wantDurable(t, d, 0, strings.Join(keys, "=v ")+"=v")
	}
}

// The format sets no limit but that of the half and the log to what is in them.
func TestOpenOfLongKeysAndValues(t *testing.T) {
	key, value := strings.Repeat("k", api.MaxKey+1), strings.Repeat("v", api.MaxValue+1)
	d := device(t, 1000)
	l, err := log.Open(d, 250)
	wantErr(t, "log.Open", err, api.OK)
	wantErr(t, "log.Append", l.Append([]byte(batch(set(key, value)))), api.OK)
	wantDurable(t, d, 1, key+"="+value)
	s := opened(t, d)
	squeezeOK(t, s)
	wantDurable(t, d, 0, key+"="+value)
}

func TestOpenOfABadHead(t *testing.T) {
	b := snapshot("a", "1")
	n := len(b)
	room := halfIn(24) * api.SectorSize
	good := head(1, n)
	wantDurable(t, crafted(t, good, b), 0, "a=1")
	bad := []string{
		head(2, n), head(255, n), head(256, n), encoded(-1) + number(n), encoded(-2) + number(n), encoded(math.MaxInt) + number(n), encoded(math.MinInt) + number(n),
		head(0, 0), head(1, 0), // a snapshot has its number of keys
		head(0, n-1), head(0, n+1), head(1, n-1), head(1, n+1),
		head(0, room+1), head(1, room+1), head(0, 2*room), head(0, math.MaxInt), head(1, math.MaxInt),
		number(0) + encoded(-1), number(1) + encoded(-n), number(1) + encoded(math.MinInt),
		good + "\x00", good + "\xff", good + good, good + strings.Repeat("\x00", api.HeadSize-len(good)),
		"\x02\x00\x01" + number(n), "\x01\x00" + number(n), "\x09" + number(n), "\x10" + number(n), // no numbers of layer 1
		number(1) + "\x02\x00" + string([]byte{byte(n)}), number(1) + "\x41" + string([]byte{byte(n)}),
		strings.Repeat("\x00", 32), strings.Repeat("\xff", 32),
	}
	for i := 1; i < len(good); i++ {
		bad = append(bad, good[:i])
	}
	for _, h := range bad {
		for range 2 {
			noOpen(t, crafted(t, h, b), api.ErrForm)
			noOpen(t, crafted(t, h, b, batch(set("a", "1"))), api.ErrForm)
		}
		if t.Failed() {
			t.Fatalf("with the head %x", h)
		}
	}
}

func TestOpenOfABadSnapshot(t *testing.T) {
	good := snapshot("a", "1", "b", "", "c", "33")
	wantDurable(t, crafted(t, head(0, len(good)), good), 0, "a=1 b= c=33")
	pairs := text("a") + text("1") + text("b") + text("")
	bad := []string{
		good + "\x00", good + text("d") + text("4"), good + good, // left over
		number(1) + pairs, number(3) + pairs, number(0) + pairs, encoded(-1) + pairs, encoded(-3) + pairs, encoded(math.MaxInt) + pairs, encoded(math.MinInt) + pairs,
		number(1 << 40), number(math.MaxInt), encoded(-1), "\x01\x00", "\x20",
		snapshot("", "1"), snapshot("", ""), snapshot("", "1", "a", "1"), snapshot("a", "1", "", "1"),
		snapshot("b", "1", "a", "1"), snapshot("a", "1", "c", "1", "b", "1"), snapshot("ab", "1", "a", "1"), snapshot("a", "1", "Z", "1"), snapshot("\x80", "1", "\x7f", "1"), snapshot("a\x00", "1", "a", "1"),
		snapshot("a", "1", "a", "1"), snapshot("a", "1", "a", "2"), snapshot("a", "1", "b", "1", "b", "1"), snapshot("a", "1", "b", "1", "a", "1"),
		number(1) + encoded(-1) + "a" + text("1"), number(1) + text("a") + encoded(-2) + "1", number(1) + text("a") + number(math.MaxInt) + "1", number(1) + text("a") + "\x01\x00",
		number(1) + number(400) + "a" + text("1"), number(1) + text("a") + number(2) + "1",
	}
	for i := range len(good) {
		bad = append(bad, good[:i])
	}
	for _, b := range bad {
		for half := range 2 {
			noOpen(t, crafted(t, head(half, len(b)), b), api.ErrForm)
			noOpen(t, crafted(t, head(half, len(b)), b, batch(set("a", "1"))), api.ErrForm)
		}
		d := crafted(t, head(0, len(good)), b, batch(set("a", "1")))
		putHalf(t, d, 0, good) // the other half is not looked at
		wantDurable(t, d, 1, "a=1 b= c=33")
		if t.Failed() {
			t.Fatalf("with the snapshot %x", b)
		}
	}
}

func TestOpenOfABadBatch(t *testing.T) {
	good := batch(set("a", "1"), gone("b"), set("c", ""))
	wantDurable(t, crafted(t, "", "", good, good), 2, "a=1 c=")
	change := "\x00" + text("a") + text("1")
	bad := []string{
		good + "\x00", good + good, good + change, batch() + "\x00",
		number(0) + change, number(2) + change, encoded(-1) + change, encoded(-2) + change, number(1<<40) + change, encoded(math.MaxInt) + change, encoded(math.MinInt) + change,
		number(1), number(math.MaxInt), encoded(-1), "\x01\x00", "\x20", "\x00\x00",
		batch(set("", "1")), batch(gone("")), batch(set("a", "1"), gone("")), batch(set("", ""), set("a", "1")), batch(gone("a"), set("", "1")),
		number(1) + number(2) + text("a"), number(1) + encoded(-1) + text("a"), number(1) + number(255) + text("a") + text("1"), number(1) + "\x01\x00" + text("a"), // no Flags
		number(1) + "\x01\x01" + text("a") + text("1"), // a removed key has no value
		number(1) + "\x00" + text("a"),                 // any other has one
		number(1) + "\x00" + encoded(-2) + "a" + text("1"), number(1) + "\x00" + text("a") + encoded(-2) + "1", number(1) + "\x00" + text("a") + number(2) + "1",
		number(1) + "\x00" + text("a") + number(math.MaxInt) + "1", number(1) + "\x00" + "\x01\x00" + text("1"),
	}
	for i := range len(good) {
		bad = append(bad, good[:i])
	}
	b := snapshot("k", "v")
	for _, x := range bad {
		noOpen(t, crafted(t, "", "", x), api.ErrForm)
		noOpen(t, crafted(t, "", "", good, x), api.ErrForm)
		noOpen(t, crafted(t, "", "", x, good), api.ErrForm)
		noOpen(t, crafted(t, head(1, len(b)), b, good, x, good), api.ErrForm)
		if t.Failed() {
			t.Fatalf("with the batch %x", x)
		}
	}
}

// fullEpochs makes the head of the log the last one that an Open can follow on.
func fullEpochs(t *testing.T, d *sector.Device, contents string) {
	t.Helper()
	put(t, d, 0, headSector(1000, math.MaxUint32, 0, contents))
}

func TestOpenErrorsInOrder(t *testing.T) {
	good, bad := snapshot("a", "1"), snapshot("b", "1", "a", "1")
	badHead := head(2, len(good))
	ok, broken := batch(set("k", "v")), "broken"

	// The log's errors come first: a device that is off at the head's reading, its writing and its flush, and epochs at their end.
	for limit := range 2 {
		for _, h := range []string{"", badHead, head(0, len(good)), head(0, len(bad))} {
			for _, half := range []string{good, bad} {
				d := crafted(t, h, half, ok, broken)
				d.Limit(limit)
				noOpen(t, d, api.ErrDown)
			}
		}
	}
	for _, h := range []string{"", badHead, head(0, len(good))} {
		d := crafted(t, h, bad, broken)
		fullEpochs(t, d, h)
		check := untouched(t, d)
		noOpen(t, d, api.ErrFull)
		check()
		d.Limit(0)
		noOpen(t, d, api.ErrDown)
	}

	// Behind the log's flush the device is off: ErrDown, where a snapshot has to be read.
	for _, c := range []struct {
		head, half, batch string
		want              api.Errno
	}{
		{head(0, len(good)), good, ok, api.ErrDown},
		{head(1, len(good)), good, broken, api.ErrDown},
		{head(0, len(bad)), bad, ok, api.ErrDown},
		{head(1, len(bad)), bad, broken, api.ErrDown},
		{head(1, halfIn(24)*api.SectorSize), good, broken, api.ErrDown},
		{badHead, good, ok, api.ErrForm}, // it names nothing that could be read
		{head(0, halfIn(24)*api.SectorSize+1), good, ok, api.ErrForm},
		{"", good, broken, api.ErrForm},
	} {
		d := crafted(t, c.head, c.half, c.batch)
		d.Limit(2)
		noOpen(t, d, c.want)
		d.Limit(3)
		if c.want == api.ErrDown && c.half == good && c.batch == ok {
			wantStore(t, opened(t, d), 1, "a=1 k=v")
		} else {
			noOpen(t, d, api.ErrForm)
		}
		if t.Failed() {
			t.Fatalf("with the head %x, the half %x and the batch %x", c.head, c.half, c.batch)
		}
	}
	d := crafted(t, "", good, ok)
	d.Limit(2)
	s := opened(t, d)
	if v, found := s.Get("k"); v != "v" || !found || s.Down() {
		t.Errorf("Get is %q, %t, and Down %t", v, found, s.Down())
	}
}

// Open without success leaves the device to a later one, which has the same answer.
func TestOpenAgain(t *testing.T) {
	good := snapshot("a", "1")
	for range 3 {
		d := crafted(t, head(0, len(good)), good, batch(set("b", "2")))
		for range 3 {
			wantStore(t, opened(t, d), 1, "a=1 b=2")
		}
		d = crafted(t, head(0, len(good)-1), good, batch(set("b", "2")))
		for range 3 {
			noOpen(t, d, api.ErrForm)
		}
		d = crafted(t, "", good, batch(set("b", "2")), "broken")
		for range 3 {
			noOpen(t, d, api.ErrForm)
		}
	}
}

func anyBytes(r *rand.Rand, size int) string {
	b := make([]byte, size)
	for i := range b {
		b[i] = byte(r.Intn(256))
		if r.Intn(2) == 0 {
			b[i] = byte(r.Intn(3))
		}
	}
	return string(b)
}

// Without a head that is valid, whatever bytes are on the device are an empty store.
func TestOpenOfAnyBytes(t *testing.T) {
	for seed := range int64(200) {
		r := rand.New(rand.NewSource(seed))
		d := device(t, 16+r.Intn(40))
		for i := range d.Sectors() {
			put(t, d, i, anyBytes(r, api.SectorSize))
		}
		s := opened(t, d)
		wantStore(t, s, 0, "")
		commitOK(t, s, set("a", "1"))
		squeezeOK(t, s)
		commitOK(t, s, set("b", "2"))
		wantDurable(t, d, 1, "a=1 b=2")
	}
}

// wantOpenOrForm opens a device, which may have anything in a valid log, and uses the store if there is one.
func wantOpenOrForm(t *testing.T, d *sector.Device) {
	t.Helper()
	s, err := store.Open(d)
	if err != api.OK {
		if s != nil || err != api.ErrForm {
			t.Errorf("Open is %v, %v", s, err)
		}
		noOpen(t, d, api.ErrForm)
		return
	}
	var keys []string
	for k, v := range s.Tree().From("") {
		keys = append(keys, k, v)
	}
	if _, ok := s.Get(""); ok {
		t.Errorf("the store has an empty key")
	}
	wantDurable(t, d, s.Commits(), keysOf(s))
	if len(snapshot(keys...)) <= halfIn(d.Sectors())*api.SectorSize {
		squeezeOK(t, s)
		wantDurable(t, d, 0, keysOf(s))
	} else {
		wantErr(t, "Squeeze", s.Squeeze(), api.ErrFull)
	}
}

func TestOpenOfAnyParts(t *testing.T) {
	good := snapshot("a", "1", "b", "2")
	for seed := range int64(500) {
		r := rand.New(rand.NewSource(seed))
		h := head(r.Intn(2), 1+r.Intn(40))
		if r.Intn(3) == 0 {
			h = anyBytes(r, r.Intn(6))
		}
		half := anyBytes(r, 64)
		if r.Intn(2) == 0 {
			half, h = good, head(r.Intn(2), len(good))
		}
		wantOpenOrForm(t, crafted(t, h, half, anyBytes(r, r.Intn(20)), anyBytes(r, r.Intn(60))))
		wantOpenOrForm(t, crafted(t, h, half))
	}
}

// Each byte of a snapshot and of a batch, changed to each of some others.
func TestOpenOfChangedBytes(t *testing.T) {
	half := snapshot("a", "1", "b", "", "cc", "33")
	one := batch(set("a", "x"), gone("b"), set("d", ""))
	h := head(1, len(half))
	changed := func(s string, do func(string)) {
		for i := range len(s) {
			for _, c := range []byte{0, 1, 2, 3, 8, 9, 16, 'a', 'b', 127, 128, 129, 255} {
				do(s[:i] + string([]byte{c}) + s[i+1:])
			}
		}
	}
	changed(half, func(x string) { wantOpenOrForm(t, crafted(t, h, x, one)) })
	changed(one, func(x string) { wantOpenOrForm(t, crafted(t, h, half, x)) })
	changed(h, func(x string) { wantOpenOrForm(t, crafted(t, x, half, one)) })
}
