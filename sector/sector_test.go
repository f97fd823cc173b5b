package sector_test

import (
	"math"
	"math/rand"
	"slices"
	"strings"
	"testing"

	"refit/api"
	"refit/sector"
)

const (
	least = math.MinInt
	most  = math.MaxInt
)

// full is the contents of a sector that begins with s.
func full(s string) string {
	return s + strings.Repeat("\x00", api.SectorSize-len(s))
}

// every is as many bytes as a sector has, none of which is zero or equal to another.
func every() string {
	var b []byte
	for c := range api.SectorSize {
		b = append(b, byte(c+1))
	}
	return string(b)
}

func made(t *testing.T, sectors int) *sector.Device {
	t.Helper()
	d, err := sector.New(sectors)
	if d == nil || err != api.OK {
		t.Fatalf("New(%d) is %v, %v", sectors, d, err)
	}
	return d
}

func read(t *testing.T, d *sector.Device, i int, want string) {
	t.Helper()
	if b, err := d.Read(i); string(b) != full(want) || err != api.OK {
		t.Errorf("Read(%d) is %q, %v, want %q", i, b, err, full(want))
	}
}

func wantErr(t *testing.T, call string, got, want api.Errno) {
	t.Helper()
	if got != want {
		t.Errorf("%s is %v, want %v", call, got, want)
	}
}

func noRead(t *testing.T, d *sector.Device, i int, want api.Errno) {
	t.Helper()
	if b, err := d.Read(i); len(b) != 0 || err != want {
		t.Errorf("Read(%d) is %q, %v, want %v", i, b, err, want)
	}
}

func write(t *testing.T, d *sector.Device, i int, s string) {
	t.Helper()
	wantErr(t, "Write", d.Write(i, []byte(s)), api.OK)
}

func noWrite(t *testing.T, d *sector.Device, i int, s string, want api.Errno) {
	t.Helper()
	wantErr(t, "Write", d.Write(i, []byte(s)), want)
}

func flush(t *testing.T, d *sector.Device) {
	t.Helper()
	wantErr(t, "Flush", d.Flush(), api.OK)
}

func wantCounts(t *testing.T, d *sector.Device, waiting, calls int) {
	t.Helper()
	if d.Waiting() != waiting || d.Calls() != calls {
		t.Errorf("Waiting is %d and Calls %d, want %d and %d", d.Waiting(), d.Calls(), waiting, calls)
	}
}

// wantOff is for a device of at least one sector.
func wantOff(t *testing.T, d *sector.Device) {
	t.Helper()
	waiting, calls := d.Waiting(), d.Calls()
	noRead(t, d, 0, api.ErrDown)
	noWrite(t, d, 0, "off", api.ErrDown)
	wantErr(t, "Flush", d.Flush(), api.ErrDown)
	wantCounts(t, d, waiting, calls)
}

// wantOn makes so many calls that succeed.
func wantOn(t *testing.T, d *sector.Device, calls int) {
	t.Helper()
	for i := range calls {
		if _, err := d.Read(0); err != api.OK {
			t.Errorf("Read before call %d is %v", i, err)
		}
		if i%2 == 0 {
			write(t, d, 0, "on")
		} else {
			flush(t, d)
		}
	}
}

// P6.1

func TestNew(t *testing.T) {
	for _, n := range []int{1, 2, 3, 16, 63, 64, 65, 600, api.MaxSectors - 1, api.MaxSectors} {
		d := made(t, n)
		if d.Sectors() != n {
			t.Errorf("Sectors is %d, want %d", d.Sectors(), n)
		}
		wantCounts(t, d, 0, 0)
		for i := range n {
			if b, err := d.Read(i); string(b) != full("") || err != api.OK {
				t.Fatalf("Read(%d) of %d new sectors is %q, %v", i, n, b, err)
			}
		}
		noRead(t, d, n, api.ErrArg)
	}
}

func TestNewOfWrongNumbers(t *testing.T) {
	for _, n := range []int{0, -1, -2, -api.MaxSectors, -1 << 32, least, api.MaxSectors + 1, api.MaxSectors + 2, 2 * api.MaxSectors, 1<<32 + 1, most} {
		if d, err := sector.New(n); d != nil || err != api.ErrArg {
			t.Errorf("New(%d) is %v, %v", n, d, err)
		}
	}
}

func TestCounts(t *testing.T) {
	d := made(t, 2)
	write(t, d, 0, "a")
	wantCounts(t, d, 1, 1)
	write(t, d, 0, "a") // the same once more waits too
	wantCounts(t, d, 2, 2)
	write(t, d, 1, "")
	wantCounts(t, d, 3, 3)
	read(t, d, 0, "a")
	wantCounts(t, d, 3, 3)
	flush(t, d)
	wantCounts(t, d, 0, 4)
	flush(t, d) // of nothing
	wantCounts(t, d, 0, 5)
	write(t, d, 1, "b")
	d.Crash()
	wantCounts(t, d, 0, 6)
	d.Crash(1, 2)
	wantCounts(t, d, 0, 6)
	write(t, d, 1, "b")
	d.Limit(1)
	wantCounts(t, d, 1, 7)
	flush(t, d)
	wantCounts(t, d, 0, 8)
	if d.Sectors() != 2 {
		t.Errorf("Sectors is %d", d.Sectors())
	}
}

func TestCountsOfCallsThatFail(t *testing.T) {
	d := made(t, 1)
	write(t, d, 0, "a")
	noWrite(t, d, 1, "b", api.ErrArg)
	noWrite(t, d, -1, "b", api.ErrArg)
	noWrite(t, d, 0, every()+"b", api.ErrArg)
	noRead(t, d, 1, api.ErrArg)
	wantCounts(t, d, 1, 1)
	d.Limit(0)
	noWrite(t, d, 0, "b", api.ErrDown)
	wantErr(t, "Flush", d.Flush(), api.ErrDown)
	wantCounts(t, d, 1, 1)
}

func TestDevicesAreApart(t *testing.T) {
	c, d := made(t, 2), made(t, 2)
	write(t, c, 0, "c")
	d.Limit(0)
	read(t, c, 0, "c")
	wantCounts(t, c, 1, 1)
	wantCounts(t, d, 0, 0)
	d.Crash()
	read(t, c, 0, "c")
	read(t, d, 0, "")
}

// P6.2

func TestWrite(t *testing.T) {
	d := made(t, 3)
	write(t, d, 1, "abc")
	read(t, d, 0, "")
	read(t, d, 1, "abc")
	read(t, d, 2, "")
	write(t, d, 2, every())
	write(t, d, 0, "\x00\xff\x00")
	for range 2 { // the same, waiting and flushed
		read(t, d, 0, "\x00\xff")
		read(t, d, 1, "abc")
		read(t, d, 2, every())
		flush(t, d)
	}
}

// What is shorter than a sector ends in zeros, not in what was there before.
func TestWriteOfEachSize(t *testing.T) {
	for size := range api.SectorSize + 1 {
		d := made(t, 2)
		write(t, d, 0, strings.Repeat("z", api.SectorSize))
		write(t, d, 1, "next")
		write(t, d, 0, every()[:size])
		read(t, d, 0, every()[:size])
		flush(t, d)
		read(t, d, 0, every()[:size])
		write(t, d, 0, strings.Repeat("y", size))
		read(t, d, 0, strings.Repeat("y", size))
		read(t, d, 1, "next")
	}
}

func TestWriteOfNothing(t *testing.T) {
	for _, b := range [][]byte{nil, {}} {
		d := made(t, 1)
		write(t, d, 0, every())
		wantErr(t, "Write of nothing", d.Write(0, b), api.OK)
		wantCounts(t, d, 2, 2)
		read(t, d, 0, "")
		flush(t, d)
		read(t, d, 0, "")
	}
}

func TestWriteOfTooMuch(t *testing.T) {
	d := made(t, 2)
	write(t, d, 0, "a")
	flush(t, d)
	write(t, d, 0, "b")
	for _, size := range []int{api.SectorSize + 1, api.SectorSize + 2, 2 * api.SectorSize, 256, 256 + api.SectorSize, 100_000} {
		noWrite(t, d, 0, strings.Repeat("z", size), api.ErrArg)
		noWrite(t, d, 0, strings.Repeat("\x00", size), api.ErrArg)
	}
	wantCounts(t, d, 1, 3)
	read(t, d, 0, "b")
	read(t, d, 1, "")
	d.Crash()
	read(t, d, 0, "a")
}

func TestNoSuchSector(t *testing.T) {
	for _, n := range []int{1, 2, 64, api.MaxSectors} {
		d := made(t, n)
		write(t, d, 0, "first")
		write(t, d, n-1, "last")
		for _, i := range []int{-1, -2, -n, -1 << 32, least, n, n + 1, 2*n + 1, 1 << 32, 1<<32 + 1, most} {
			noRead(t, d, i, api.ErrArg)
			noWrite(t, d, i, "a", api.ErrArg)
			noWrite(t, d, i, "", api.ErrArg)
			noWrite(t, d, i, every()+"a", api.ErrArg)
		}
		wantCounts(t, d, 2, 2)
		read(t, d, n-1, "last")
		if n > 1 {
			read(t, d, 0, "first")
		}
	}
}

func TestArgBeforeDown(t *testing.T) {
	d := made(t, 2)
	write(t, d, 0, "a")
	d.Limit(0)
	for _, i := range []int{-1, 2, least, most} {
		noRead(t, d, i, api.ErrArg)
		noWrite(t, d, i, "b", api.ErrArg)
		noWrite(t, d, i, "", api.ErrArg)
	}
	noWrite(t, d, 0, every()+"b", api.ErrArg)
	noWrite(t, d, 1, every(), api.ErrDown)
	noWrite(t, d, 1, "", api.ErrDown)
	noRead(t, d, 1, api.ErrDown)
	wantOff(t, d)
	d.Limit(1) // what failed has left no trace
	wantCounts(t, d, 1, 1)
	read(t, d, 0, "a")
	read(t, d, 1, "")
	flush(t, d)
	d.Crash()
	read(t, d, 0, "a")
	read(t, d, 1, "")
}

func TestReadOfTheLastWrite(t *testing.T) {
	d := made(t, 2)
	write(t, d, 0, "aaa")
	write(t, d, 0, "bb")
	read(t, d, 0, "bb")
	write(t, d, 1, "c")
	read(t, d, 0, "bb")
	flush(t, d)
	read(t, d, 0, "bb")
	d.Crash()
	read(t, d, 0, "bb")
	read(t, d, 1, "c")
	write(t, d, 0, "d")
	write(t, d, 0, "aaa")
	read(t, d, 0, "aaa")
	d.Crash()
	read(t, d, 0, "bb")
}

func TestFlush(t *testing.T) {
	d := made(t, 2)
	flush(t, d)
	write(t, d, 0, "a")
	flush(t, d)
	write(t, d, 1, "b")
	d.Crash()
	read(t, d, 0, "a")
	read(t, d, 1, "")
	write(t, d, 0, "c")
	flush(t, d)
	flush(t, d)
	d.Crash(0)
	read(t, d, 0, "c")
}

// A Flush that fails makes nothing durable, and its writes go on waiting.
func TestFlushWhileOff(t *testing.T) {
	d := made(t, 1)
	write(t, d, 0, "a")
	d.Limit(0)
	wantErr(t, "Flush", d.Flush(), api.ErrDown)
	wantCounts(t, d, 1, 1)
	d.Crash()
	read(t, d, 0, "")
	write(t, d, 0, "a")
	d.Limit(0)
	wantErr(t, "Flush", d.Flush(), api.ErrDown)
	d.Limit(1)
	flush(t, d)
	d.Crash()
	read(t, d, 0, "a")
}

// A write that fails is none of those that a crash keeps.
func TestWriteWhileOff(t *testing.T) {
	d := made(t, 2)
	d.Limit(1)
	write(t, d, 0, "aa")
	noWrite(t, d, 0, "bb", api.ErrDown)
	noWrite(t, d, 1, "cc", api.ErrDown)
	wantCounts(t, d, 1, 1)
	d.Crash(1, 1, 1)
	read(t, d, 0, "a")
	read(t, d, 1, "")
}

func TestManySectors(t *testing.T) {
	d := made(t, api.MaxSectors)
	name := func(i int) string { return string([]byte{byte(i >> 8), byte(i), 'x'}) }
	for i := range api.MaxSectors {
		write(t, d, i, name(i))
	}
	wantCounts(t, d, api.MaxSectors, api.MaxSectors)
	for range 2 { // waiting, then flushed
		for i := range api.MaxSectors {
			if b, err := d.Read(i); string(b) != full(name(i)) || err != api.OK {
				t.Fatalf("Read(%d) is %q, %v", i, b, err)
			}
		}
		flush(t, d)
	}
}

// P6.3

func TestLimit(t *testing.T) {
	for _, calls := range []int{0, 1, 2, 3, 10, 1000} {
		d := made(t, 1)
		d.Limit(calls)
		wantOn(t, d, calls)
		wantOff(t, d)
		wantOff(t, d) // it remains so
		wantCounts(t, d, calls%2, calls)
		d.Crash()
		wantOn(t, d, 5)
	}
}

func TestLimitBelowZero(t *testing.T) {
	for _, calls := range []int{-1, -2, -1000, -1 << 32, least} {
		d := made(t, 1)
		d.Limit(calls)
		wantOff(t, d)
		wantOff(t, d)
		d.Limit(1)
		wantOn(t, d, 1)
		wantOff(t, d)
	}
}

func TestLimitOfOne(t *testing.T) {
	d := made(t, 1)
	d.Limit(1)
	write(t, d, 0, "a")
	wantOff(t, d)
	d.Limit(1)
	flush(t, d)
	wantOff(t, d)
}

func TestGreatLimits(t *testing.T) {
	for _, calls := range []int{1 << 31, 1 << 32, most} {
		d := made(t, 1)
		d.Limit(calls)
		wantOn(t, d, 100)
	}
}

func TestNoLimit(t *testing.T) {
	wantOn(t, made(t, 1), 1000)
}

// Only calls of Write and Flush that succeed, and those behind Limit, count.
func TestWhatDoesNotCount(t *testing.T) {
	d := made(t, 1)
	wantOn(t, d, 5)
	d.Limit(2)
	for range 10 {
		read(t, d, 0, "on")
		noRead(t, d, 1, api.ErrArg)
		noWrite(t, d, 1, "a", api.ErrArg)
		noWrite(t, d, 0, every()+"a", api.ErrArg)
		d.Waiting()
		d.Calls()
		d.Sectors()
	}
	wantOn(t, d, 2)
	wantOff(t, d)
}

func TestLimitThatReplacesAnother(t *testing.T) {
	for _, c := range []struct{ first, used, second int }{
		{5, 0, 0}, {5, 0, 1}, {5, 3, 1}, {5, 3, 3}, {5, 4, 0}, // a less one
		{1, 0, 3}, {2, 1, 2}, {2, 1, 1}, {2, 1, 4}, {0, 0, 1}, // a greater one
		{0, 0, 0}, {1, 1, 0}, {3, 3, 3}, {1, 1, 2}, {-1, 0, 2}, // one behind the end of the first
	} {
		d := made(t, 1)
		d.Limit(c.first)
		wantOn(t, d, c.used)
		d.Limit(c.second)
		wantOn(t, d, c.second)
		wantOff(t, d)
		wantCounts(t, d, d.Waiting(), c.used+c.second)
	}
	d := made(t, 1)
	d.Limit(1)
	d.Limit(-1)
	wantOff(t, d)
}

// A Crash ends a limit, whether it is reached or not.
func TestCrashEndsTheLimit(t *testing.T) {
	for _, c := range []struct{ limit, used int }{{0, 0}, {-1, 0}, {1, 0}, {1, 1}, {3, 2}, {3, 3}} {
		d := made(t, 1)
		d.Limit(c.limit)
		wantOn(t, d, c.used)
		d.Crash()
		wantOn(t, d, 20)
		d.Limit(2)
		wantOn(t, d, 2)
		wantOff(t, d)
	}
}

// A device that is off keeps its contents, flushed or not.
func TestOffAndOnAgain(t *testing.T) {
	d := made(t, 2)
	write(t, d, 0, "a")
	flush(t, d)
	write(t, d, 0, "b")
	write(t, d, 1, "c")
	d.Limit(0)
	wantOff(t, d)
	wantCounts(t, d, 2, 4)
	d.Limit(5)
	wantCounts(t, d, 2, 4)
	read(t, d, 0, "b")
	read(t, d, 1, "c")
	d.Crash(0, 64)
	read(t, d, 0, "a")
	read(t, d, 1, "c")
}

func TestExample(t *testing.T) {
	d := made(t, 1)
	write(t, d, 0, "abcd")
	write(t, d, 0, "xyz")
	d.Crash(64, 1)
	read(t, d, 0, "xbcd")
}

type sent struct {
	sector int
	s      string
}

func TestCrash(t *testing.T) {
	l := []sent{{0, "AAAA"}, {1, "BBBB"}, {0, "CCCC"}}
	for _, c := range []struct {
		tears  []int
		first  string
		second string
	}{
		{nil, "aaaaaa", "bb"},
		{[]int{}, "aaaaaa", "bb"},
		{[]int{0, 0, 0}, "aaaaaa", "bb"},
		{[]int{2}, "AAaaaa", "bb"},
		{[]int{64}, "AAAA", "bb"},
		{[]int{0, 1}, "aaaaaa", "Bb"},
		{[]int{2, 64}, "AAaaaa", "BBBB"},
		{[]int{0, 0, 1}, "Caaaaa", "bb"},
		{[]int{3, 3, 1}, "CAAaaa", "BBB"},
		{[]int{1, 3, 3}, "CCCaaa", "BBB"},
		{[]int{64, 64, 64}, "CCCC", "BBBB"},
		{[]int{64, 0, 2}, "CCAA", "bb"},
		{[]int{5, 0, 2}, "CCAA\x00a", "bb"},
		{[]int{2, 1, 2, 64, 64}, "CCaaaa", "Bb"}, // more than there are
		{[]int{0, 0, 0, 64, 64, 64}, "aaaaaa", "bb"},
		{[]int{-1, 1, -64}, "aaaaaa", "Bb"},
		{[]int{least, -2, 1}, "Caaaaa", "bb"},
		{[]int{65, 1000, 1}, "CAAA", "BBBB"},
		{[]int{most, 1 << 32, 1<<32 + 1}, "CCCC", "BBBB"},
		{[]int{-1 << 32, -1<<32 + 1, 256}, "CCCC", "bb"},
	} {
		d := made(t, 3)
		write(t, d, 0, "aaaaaa")
		write(t, d, 1, "bb")
		write(t, d, 2, "cc")
		flush(t, d)
		for _, w := range l {
			write(t, d, w.sector, w.s)
		}
		given := slices.Clone(c.tears)
		d.Crash(c.tears...)
		if !slices.Equal(c.tears, given) {
			t.Errorf("the tears %v have become %v", given, c.tears)
		}
		read(t, d, 0, c.first)
		read(t, d, 1, c.second)
		read(t, d, 2, "cc")
		wantCounts(t, d, 0, 7)
	}
}

// All sizes of a write against all sizes of what is kept of it: its zeros are kept as well.
func TestCrashOfEachSize(t *testing.T) {
	old := strings.Repeat("z", api.SectorSize)
	d := made(t, 1)
	for size := range api.SectorSize + 1 {
		for tear := range api.SectorSize + 1 {
			write(t, d, 0, old)
			flush(t, d)
			write(t, d, 0, every()[:size])
			d.Crash(tear)
			read(t, d, 0, full(every()[:size])[:tear]+old[tear:])
		}
	}
}

// A write that is wholly lost leaves the sector to the one before it, and one that is torn lies upon it.
func TestCrashIsInOrder(t *testing.T) {
	for _, c := range []struct {
		tears []int
		want  string
	}{
		{[]int{4, 3, 2, 1}, "dcba"},
		{[]int{1, 2, 3, 4}, "dddd"},
		{[]int{4, 0, 2, 0}, "ccaa"},
		{[]int{0, 3, 0, 1}, "dbb"},
		{[]int{4, -1, 65}, "cccc"},
	} {
		d := made(t, 1)
		for _, s := range []string{"aaaa", "bbbb", "cccc", "dddd"} {
			write(t, d, 0, s)
		}
		d.Crash(c.tears...)
		read(t, d, 0, c.want)
	}
}

// What a crash leaves is durable, and what it lost does not come again.
func TestAfterACrash(t *testing.T) {
	d := made(t, 2)
	write(t, d, 0, "aaaa")
	write(t, d, 1, "bbbb")
	d.Crash(2, 0)
	d.Crash(64, 64)
	flush(t, d)
	read(t, d, 0, "aa")
	read(t, d, 1, "")
	write(t, d, 1, "cccc")
	d.Crash(1)
	d.Crash()
	read(t, d, 0, "aa")
	read(t, d, 1, "c")
	write(t, d, 0, "dd")
	flush(t, d)
	d.Crash(1, 1)
	read(t, d, 0, "dd")
	read(t, d, 1, "c")
}

func TestCrashOfANewDevice(t *testing.T) {
	d := made(t, 2)
	d.Crash()
	d.Crash(64, 64, 64)
	wantCounts(t, d, 0, 0)
	read(t, d, 0, "")
	read(t, d, 1, "")
}

func TestNilDevice(t *testing.T) {
	var d *sector.Device
	for range 2 {
		for _, i := range []int{least, -1, 0, 1, most} {
			noRead(t, d, i, api.ErrNil)
			noWrite(t, d, i, "a", api.ErrNil)
			noWrite(t, d, i, every()+"a", api.ErrNil)
			wantErr(t, "Write of nothing", d.Write(i, nil), api.ErrNil)
			d.Limit(i)
			wantErr(t, "Flush", d.Flush(), api.ErrNil)
			d.Crash(i, 1)
		}
		d.Crash()
		wantCounts(t, d, 0, 0)
		if d.Sectors() != 0 {
			t.Errorf("Sectors is %d", d.Sectors())
		}
	}
}

// Arguments and results (Rules 4 and 5)

// fill overwrites b and what is spare behind it.
func fill(b []byte) {
	b = b[:cap(b)]
	for i := range b {
		b[i] = '!'
	}
}

func TestReadIsNewMemory(t *testing.T) {
	d := made(t, 2)
	write(t, d, 1, "next")
	want := ""
	for _, change := range []func(){
		func() {},
		func() { write(t, d, 0, "waiting"); want = "waiting" },
		func() { flush(t, d) },
		func() { write(t, d, 0, "torn"); d.Crash(2); want = "toiting" },
	} {
		change()
		first, _ := d.Read(0)
		second, _ := d.Read(0)
		fill(first)
		if string(second) != full(want) {
			t.Errorf("another result has become %q", second)
		}
		read(t, d, 0, want)
		read(t, d, 1, "next")
	}
	// Nor does it change later on.
	kept, _ := d.Read(0)
	write(t, d, 0, "later")
	flush(t, d)
	if string(kept) != full("toiting") {
		t.Errorf("the result has become %q", kept)
	}
}

func TestWriteKeepsItsArgument(t *testing.T) {
	for _, size := range []int{0, 1, 10, api.SectorSize - 1, api.SectorSize} {
		d := made(t, 1)
		whole := []byte(every() + "spare")
		b := whole[:size]
		wantErr(t, "Write", d.Write(0, b), api.OK)
		fill(b)
		read(t, d, 0, every()[:size])
		flush(t, d)
		read(t, d, 0, every()[:size])

		whole = []byte(every() + "spare")
		b = whole[:size]
		wantErr(t, "Write", d.Write(0, b), api.OK)
		flush(t, d)
		fill(b)
		read(t, d, 0, every()[:size])
		d.Crash()
		read(t, d, 0, every()[:size])

		whole = []byte(every() + "spare")
		d.Write(0, whole[:size])
		d.Write(0, whole[:65])
		d.Crash(most)
		if string(whole) != every()+"spare" {
			t.Errorf("the bytes have become %q", whole)
		}
	}
}

// plain describes a device a second time, by what its terms say and without regard to time.
type plain struct {
	durable []string
	waiting []sent
	calls   int
	limit   int // -1: none
}

func (p *plain) fault(i, size int) api.Errno {
	if i < 0 || i >= len(p.durable) || size > api.SectorSize {
		return api.ErrArg
	}
	return p.flushFault()
}

func (p *plain) flushFault() api.Errno {
	if p.limit == 0 {
		return api.ErrDown
	}
	return api.OK
}

func (p *plain) success() {
	p.calls++
	if p.limit > 0 {
		p.limit--
	}
}

func (p *plain) contents(i int) string {
	for _, w := range slices.Backward(p.waiting) {
		if w.sector == i {
			return full(w.s)
		}
	}
	return p.durable[i]
}

func (p *plain) settle(tear func(k int) int) {
	for k, w := range p.waiting {
		n := tear(k)
		p.durable[w.sector] = full(w.s)[:n] + p.durable[w.sector][n:]
	}
	p.waiting = nil
}

func (p *plain) crash(tears []int) {
	p.settle(func(k int) int {
		if k >= len(tears) || tears[k] < 0 {
			return 0
		}
		return min(tears[k], api.SectorSize)
	})
	p.limit = -1
}

// step does the same to both and compares what they answer.
func step(t *testing.T, r *rand.Rand, d *sector.Device, p *plain) {
	t.Helper()
	i := r.Intn(len(p.durable)+2) - 1
	switch r.Intn(12) {
	case 0, 1, 2, 3, 4:
		s := strings.Repeat(string([]byte{byte(1 + r.Intn(255))}), r.Intn(api.SectorSize+4))
		want := p.fault(i, len(s))
		noWrite(t, d, i, s, want)
		if want == api.OK {
			p.waiting = append(p.waiting, sent{i, s})
			p.success()
		}
	case 5, 6, 7, 8:
		want := p.fault(i, 0)
		if want == api.OK {
			read(t, d, i, p.contents(i))
		} else {
			noRead(t, d, i, want)
		}
	case 9:
		want := p.flushFault()
		wantErr(t, "Flush", d.Flush(), want)
		if want == api.OK {
			p.settle(func(int) int { return api.SectorSize })
			p.success()
		}
	case 10:
		p.limit = r.Intn(12)
		d.Limit(p.limit)
	case 11:
		var tears []int
		for range r.Intn(8) {
			tears = append(tears, r.Intn(api.SectorSize+20)-10)
		}
		d.Crash(tears...)
		p.crash(tears)
	}
	wantCounts(t, d, len(p.waiting), p.calls)
}

func TestManySteps(t *testing.T) {
	for seed := range int64(200) {
		r := rand.New(rand.NewSource(seed))
		n := 1 + r.Intn(4)
		d := made(t, n)
		p := &plain{durable: slices.Repeat([]string{full("")}, n), limit: -1}
		for range 300 {
			step(t, r, d, p)
		}
		if t.Failed() {
			t.Fatalf("with the seed %d", seed)
		}
	}
}
