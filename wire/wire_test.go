package wire_test

import (
	"bytes"
	"math"
	"slices"
	"strings"
	"testing"

	"refit/wire"
)

var numbers = []struct {
	n       int
	encoded string
}{
	{0, "\x00"},
	{-1, "\x80"},
	{1, "\x01\x01"},
	{-2, "\x81\x01"},
	{127, "\x01\x7f"},
	{128, "\x01\x80"},
	{255, "\x01\xff"},
	{-256, "\x81\xff"},
	{256, "\x02\x01\x00"},
	{-257, "\x82\x01\x00"},
	{300, "\x02\x01\x2c"},
	{1<<16 - 1, "\x02\xff\xff"},
	{1 << 16, "\x03\x01\x00\x00"},
	{1<<32 - 1, "\x04\xff\xff\xff\xff"},
	{1 << 32, "\x05\x01\x00\x00\x00\x00"},
	{-1<<32 - 1, "\x85\x01\x00\x00\x00\x00"},
	{0x0102030405060708, "\x08\x01\x02\x03\x04\x05\x06\x07\x08"},
	{math.MaxInt, "\x08\x7f\xff\xff\xff\xff\xff\xff\xff"},
	{math.MinInt, "\x88\x7f\xff\xff\xff\xff\xff\xff\xff"},
	{math.MinInt + 1, "\x88\x7f\xff\xff\xff\xff\xff\xff\xfe"},
}

var notNumbers = []string{
	"",
	"\x01",                                 // truncated
	"\x81",                                 //
	"\x02\x01",                             //
	"\x08\x01\x02\x03\x04\x05\x06\x07",     //
	"\x01\x00",                             // a leading zero byte
	"\x81\x00",                             //
	"\x02\x00\x01",                         //
	"\x08\x00\x01\x01\x01\x01\x01\x01\x01", //
	"\x09\x01\x01\x01\x01\x01\x01\x01\x01\x01", // too many bytes
	"\x0f\x01\x01\x01\x01\x01\x01\x01\x01\x01\x01\x01\x01\x01\x01\x01",
	"\x10", "\x20", "\x40", "\x70", // other bits in the header
	"\x90", "\xa0", "\xc0", "\xf0", //
	"\x11\x01", "\x21\x01", "\x41\x01", "\xc1\x01",
	"\x08\x80\x00\x00\x00\x00\x00\x00\x00", // beyond the greatest number
	"\x88\x80\x00\x00\x00\x00\x00\x00\x00", // beyond the least number
	"\x08\xff\xff\xff\xff\xff\xff\xff\xff", //
	"\x88\xff\xff\xff\xff\xff\xff\xff\xff", //
}

var texts = []struct {
	s       string
	encoded string
}{
	{"", "\x00"},
	{"a", "\x01\x01a"},
	{"ab", "\x01\x02ab"},
	{"\x00", "\x01\x01\x00"},
	{"\xff\xfe", "\x01\x02\xff\xfe"},
	{"é", "\x01\x02\xc3\xa9"},
	{strings.Repeat("x", 255), "\x01\xff" + strings.Repeat("x", 255)},
	{strings.Repeat("x", 256), "\x02\x01\x00" + strings.Repeat("x", 256)},
}

func read(s string) *wire.Reader { return wire.Read([]byte(s)) }

func number(n int) string {
	var w wire.Writer
	w.Number(n)
	return string(w.Bytes())
}

func text(s string) string {
	var w wire.Writer
	w.Text(s)
	return string(w.Bytes())
}

func flag(b bool) string {
	var w wire.Writer
	w.Flag(b)
	return string(w.Bytes())
}

// checkBad calls everything twice, since no call may make a bad reader good or consume something.
func checkBad(t *testing.T, what string, r *wire.Reader) {
	t.Helper()
	for range 2 {
		if r.OK() || r.End() || r.Left() != 0 {
			t.Errorf("%s: OK %v, End %v, Left %d of a bad reader", what, r.OK(), r.End(), r.Left())
		}
		if n := r.Number(); n != 0 {
			t.Errorf("%s: Number of a bad reader is %d", what, n)
		}
		if n := r.Count(math.MaxInt); n != 0 {
			t.Errorf("%s: Count of a bad reader is %d", what, n)
		}
		if s := r.Text(); s != "" {
			t.Errorf("%s: Text of a bad reader is %q", what, s)
		}
		if r.Flag() {
			t.Errorf("%s: Flag of a bad reader is true", what)
		}
	}
}

// P1.1

func TestNumberIsWritten(t *testing.T) {
	for _, c := range numbers {
		if got := number(c.n); got != c.encoded {
			t.Errorf("Number(%d) wrote %x, want %x", c.n, got, c.encoded)
		}
	}
}

func TestTextIsWritten(t *testing.T) {
	for _, c := range texts {
		if got := text(c.s); got != c.encoded {
			t.Errorf("Text(%q) wrote %x, want %x", c.s, got, c.encoded)
		}
	}
}

func TestFlagIsWritten(t *testing.T) {
	if got := flag(true); got != "\x01\x01" {
		t.Errorf("Flag(true) wrote %x", got)
	}
	if got := flag(false); got != "\x00" {
		t.Errorf("Flag(false) wrote %x", got)
	}
}

func TestRawIsWritten(t *testing.T) {
	var w wire.Writer
	w.Raw(nil)
	w.Raw([]byte{})
	if got := w.Bytes(); len(got) != 0 {
		t.Errorf("Raw of nothing wrote %x", got)
	}
	w.Raw([]byte("\x00\xffab"))
	if got := string(w.Bytes()); got != "\x00\xffab" {
		t.Errorf("Raw wrote %x", got)
	}
}

func TestWritesAreAppended(t *testing.T) {
	var w wire.Writer
	w.Number(2)
	w.Text("ab")
	w.Flag(true)
	w.Raw([]byte("\x07"))
	w.Text("")
	w.Flag(false)
	w.Number(-300)
	want := "\x01\x02" + "\x01\x02ab" + "\x01\x01" + "\x07" + "\x00" + "\x00" + "\x82\x01\x2b"
	for range 2 {
		if got := string(w.Bytes()); got != want {
			t.Errorf("wrote %x, want %x", got, want)
		}
	}
	w.Number(1)
	if got := string(w.Bytes()); got != want+"\x01\x01" {
		t.Errorf("after Bytes: %x", got)
	}
}

func TestZeroWriterHasNoBytes(t *testing.T) {
	var w wire.Writer
	if got := w.Bytes(); len(got) != 0 {
		t.Errorf("the zero Writer has %x", got)
	}
}

func TestNilWriter(t *testing.T) {
	var w *wire.Writer
	w.Number(300)
	w.Text("ab")
	w.Flag(true)
	w.Flag(false)
	w.Raw([]byte("ab"))
	if got := w.Bytes(); len(got) != 0 {
		t.Errorf("a nil Writer has %x", got)
	}
}

func TestBytesAreNewMemory(t *testing.T) {
	var w wire.Writer
	w.Text("abc")
	first := w.Bytes()
	second := w.Bytes()
	clear(first[:cap(first)])
	if string(second) != "\x01\x03abc" {
		t.Errorf("two results share memory: %x", second)
	}
	w.Number(1)
	third := w.Bytes()
	if string(third) != "\x01\x03abc\x01\x01" {
		t.Errorf("the result shares memory with the writer: %x", third)
	}
	_ = append(second, "zz"...)
	w.Number(2)
	if got := string(w.Bytes()); got != "\x01\x03abc\x01\x01\x01\x02" {
		t.Errorf("the spare capacity of a result is the writer's: %x", got)
	}
	if string(third) != "\x01\x03abc\x01\x01" {
		t.Errorf("a later write changed a result: %x", third)
	}
}

func TestRawKeepsItsArgument(t *testing.T) {
	whole := []byte("abcdef")
	var w wire.Writer
	w.Raw(whole[:3])
	w.Raw([]byte("zz"))
	if string(whole) != "abcdef" {
		t.Errorf("Raw changed its argument to %q", whole)
	}
	clear(whole)
	if got := string(w.Bytes()); got != "abczz" {
		t.Errorf("Raw retained its argument: %q", got)
	}
}

// P1.2

func TestNumberIsRead(t *testing.T) {
	for _, c := range numbers {
		r := read(c.encoded + "\x01")
		if n := r.Number(); n != c.n || !r.OK() || r.Left() != 1 || r.End() {
			t.Errorf("%x: Number %d, OK %v, Left %d, want %d", c.encoded, n, r.OK(), r.Left(), c.n)
		}
		r = read(c.encoded)
		if n := r.Number(); n != c.n || !r.OK() || r.Left() != 0 || !r.End() {
			t.Errorf("%x: Number %d, OK %v, Left %d at the end, want %d", c.encoded, n, r.OK(), r.Left(), c.n)
		}
		r.Number()
		checkBad(t, "Number at the end", r)
	}
}

func TestNotANumber(t *testing.T) {
	for _, s := range notNumbers {
		r := read(s)
		if n := r.Number(); n != 0 {
			t.Errorf("%x: Number is %d", s, n)
		}
		checkBad(t, "Number", r)
		r = read(s)
		if n := r.Count(math.MaxInt); n != 0 {
			t.Errorf("%x: Count is %d", s, n)
		}
		checkBad(t, "Count", r)
		r = read(s)
		if got := r.Text(); got != "" {
			t.Errorf("%x: Text is %q", s, got)
		}
		checkBad(t, "Text", r)
		r = read(s)
		if r.Flag() {
			t.Errorf("%x: Flag is true", s)
		}
		checkBad(t, "Flag", r)
	}
}

func TestNotANumberBehindOthers(t *testing.T) {
	for _, s := range notNumbers {
		r := read("\x01\x05" + s)
		if r.Number() != 5 || !r.OK() || r.Left() != len(s) || r.Number() != 0 {
			t.Errorf("%x behind a number", s)
		}
		checkBad(t, "second Number", r)
	}
}

func TestCountIsRead(t *testing.T) {
	for _, c := range []struct {
		n, most int
		good    bool
	}{
		{0, 0, true},
		{0, 5, true},
		{5, 5, true},
		{4, 5, true},
		{6, 5, false},
		{1, 0, false},
		{0, -1, false},
		{-1, -1, false},
		{-1, 5, false},
		{-2, -1, false},
		{-5, math.MaxInt, false},
		{math.MinInt, math.MinInt, false},
		{math.MinInt, math.MaxInt, false},
		{math.MaxInt, math.MaxInt, true},
		{math.MaxInt, math.MaxInt - 1, false},
	} {
		r := read(number(c.n) + "\x00")
		n := r.Count(c.most)
		if c.good {
			if n != c.n || !r.OK() || r.Left() != 1 {
				t.Errorf("Count(%d) of %d is %d, OK %v, Left %d", c.most, c.n, n, r.OK(), r.Left())
			}
			continue
		}
		if n != 0 {
			t.Errorf("Count(%d) of %d is %d", c.most, c.n, n)
		}
		checkBad(t, "Count", r)
	}
}

func TestTextIsRead(t *testing.T) {
	for _, c := range texts {
		r := read(c.encoded + "\x01")
		if s := r.Text(); s != c.s || !r.OK() || r.Left() != 1 {
			t.Errorf("%x: Text %q, OK %v, Left %d, want %q", c.encoded, s, r.OK(), r.Left(), c.s)
		}
		r = read(c.encoded)
		if s := r.Text(); s != c.s || !r.End() {
			t.Errorf("%x: Text %q, End %v, want %q", c.encoded, s, r.End(), c.s)
		}
	}
}

func TestNotAText(t *testing.T) {
	for _, s := range []string{
		"\x01\x01",                             // truncated
		"\x01\x03ab",                           //
		"\x02\x01\x00" + "ab",                  //
		"\x80",                                 // a negative length
		"\x81\x01ab",                           //
		number(math.MaxInt) + "ab",             // a length beyond all bytes
		number(math.MinInt) + "ab",             //
		"\x02\x00\x02ab",                       // a length with a leading zero byte
		"\x11\x01ab",                           // other bits in the header of the length
		"\x01\xff" + strings.Repeat("x", 254),  // one byte too few
		"\x05\x01\x00\x00\x00\x00" + "abcdefg", // a length whose low bytes alone would do
	} {
		r := read(s)
		if got := r.Text(); got != "" {
			t.Errorf("%x: Text is %q", s, got)
		}
		checkBad(t, "Text", r)
	}
}

func TestFlagIsRead(t *testing.T) {
	r := read("\x01\x01\x00\x01\x01")
	if !r.Flag() || r.Left() != 3 || r.Flag() || !r.OK() || r.Left() != 2 || !r.Flag() || !r.End() {
		t.Errorf("Flag: OK %v, Left %d", r.OK(), r.Left())
	}
	for _, n := range []int{2, 3, 255, 256, 257, -1, -2, math.MaxInt, math.MinInt} {
		r := read(number(n) + "\x01\x01")
		if r.Flag() {
			t.Errorf("Flag of %d is true", n)
		}
		checkBad(t, "Flag", r)
	}
}

func TestBadReaderConsumesNothing(t *testing.T) {
	// Good values stand behind the fault: a reader that skipped the fault would return them.
	good := number(7) + text("ab") + flag(true)
	r := read("\x40" + good)
	r.Number()
	checkBad(t, "Number", r)
	r = read(number(6) + good)
	r.Count(5)
	checkBad(t, "Count", r)
	r = read(number(100) + good)
	r.Text()
	checkBad(t, "Text", r)
	r = read(number(2) + good)
	r.Flag()
	checkBad(t, "Flag", r)
}

func TestEndAndLeft(t *testing.T) {
	for _, b := range [][]byte{nil, {}} {
		r := wire.Read(b)
		if !r.OK() || !r.End() || r.Left() != 0 {
			t.Errorf("no bytes: OK %v, End %v, Left %d", r.OK(), r.End(), r.Left())
		}
	}
	r := read("\x00\x01\x02ab")
	for range 2 {
		if !r.OK() || r.End() || r.Left() != 5 {
			t.Errorf("OK %v, End %v, Left %d at the beginning", r.OK(), r.End(), r.Left())
		}
	}
	if r.Number() != 0 || !r.OK() || r.End() || r.Left() != 4 {
		t.Errorf("OK %v, End %v, Left %d after the number", r.OK(), r.End(), r.Left())
	}
	if r.Text() != "ab" || !r.OK() || !r.End() || r.Left() != 0 {
		t.Errorf("OK %v, End %v, Left %d at the end", r.OK(), r.End(), r.Left())
	}
}

func TestNilReader(t *testing.T) {
	checkBad(t, "nil", nil)
	var r *wire.Reader
	if r.Count(0) != 0 || r.Count(-1) != 0 || r.OK() {
		t.Errorf("Count of a nil reader")
	}
}

func TestReadKeepsItsArgument(t *testing.T) {
	b := []byte("\x01\x02ab\x01\x01")
	r := wire.Read(b)
	before := slices.Clone(b)
	if r.Text() != "ab" {
		t.Errorf("Text")
	}
	if !bytes.Equal(b, before) {
		t.Errorf("the argument of Read became %x", b)
	}
	clear(b)
	if r.Left() != 2 || !r.Flag() || !r.End() {
		t.Errorf("the reader retains the argument of Read")
	}
}

func TestReadersAreApart(t *testing.T) {
	b := []byte("\x01\x05\x01\x06")
	first, second := wire.Read(b), wire.Read(b)
	if first.Number() != 5 || first.Number() != 6 || first.Number() != 0 || first.OK() {
		t.Errorf("first reader")
	}
	if second.Left() != 4 || second.Number() != 5 || !second.OK() {
		t.Errorf("second reader")
	}
}

// P1.3

// manyNumbers has the numbers on both sides of all powers of two.
func manyNumbers() []int {
	var l []int
	for bit := range 64 {
		for off := -3; off <= 3; off++ {
			n := int(uint64(1)<<bit + uint64(off))
			l = append(l, n, -n, ^n)
		}
	}
	for n := -70000; n <= 70000; n += 7 {
		l = append(l, n)
	}
	return l
}

func TestReadingWhatWasWritten(t *testing.T) {
	l := manyNumbers()
	var w wire.Writer
	w.Number(len(l))
	for i, n := range l {
		w.Number(n)
		w.Text(strings.Repeat("é\x00", i%300))
		w.Flag(i%3 == 0)
	}
	r := wire.Read(w.Bytes())
	if n := r.Count(len(l)); n != len(l) {
		t.Fatalf("Count is %d, want %d", n, len(l))
	}
	for i, n := range l {
		got, s, b := r.Number(), r.Text(), r.Flag()
		if got != n || s != strings.Repeat("é\x00", i%300) || b != (i%3 == 0) {
			t.Fatalf("element %d: %d %q %v, want the number %d", i, got, s, b, n)
		}
	}
	if !r.End() {
		t.Errorf("%d bytes are left", r.Left())
	}
}

// checkCanonical reads s in all ways: what is read must be written as the bytes that were consumed.
func checkCanonical(t *testing.T, s string) {
	t.Helper()
	r := read(s)
	if n := r.Number(); r.OK() && number(n) != s[:len(s)-r.Left()] {
		t.Errorf("%x is read as the number %d", s, n)
	}
	r = read(s)
	if n := r.Count(1000); r.OK() && (n < 0 || n > 1000 || number(n) != s[:len(s)-r.Left()]) {
		t.Errorf("%x is read as the count %d", s, n)
	}
	r = read(s)
	if got := r.Text(); r.OK() && text(got) != s[:len(s)-r.Left()] {
		t.Errorf("%x is read as the text %q", s, got)
	}
	r = read(s)
	if b := r.Flag(); r.OK() && flag(b) != s[:len(s)-r.Left()] {
		t.Errorf("%x is read as the flag %v", s, b)
	}
}

func TestWritingWhatWasRead(t *testing.T) {
	checkCanonical(t, "")
	for header := range 256 {
		checkCanonical(t, string([]byte{byte(header)}))
		for first := range 256 {
			for size := range 11 {
				b := append([]byte{byte(header), byte(first)}, "\x00\x01\x80\xff\x00\x02\x7f\xfe\x10\x61"[:size]...)
				checkCanonical(t, string(b))
			}
		}
	}
	for _, s := range notNumbers {
		checkCanonical(t, s)
	}
}

// TestEncodingsDoNotOverlap: no encoding of a number begins with that of another, and no two are the same.
func TestEncodingsDoNotOverlap(t *testing.T) {
	seen := map[string]int{}
	for _, n := range manyNumbers() {
		s := number(n)
		if other, there := seen[s]; there && other != n {
			t.Errorf("%d and %d are both %x", n, other, s)
		}
		seen[s] = n
		for end := range len(s) {
			r := read(s[:end])
			if r.Number() != 0 || r.OK() {
				t.Errorf("%x, a part of %d, is a number", s[:end], n)
			}
		}
	}
}

func FuzzCanonical(f *testing.F) {
	for _, c := range numbers {
		f.Add(c.encoded)
	}
	for _, c := range texts {
		f.Add(c.encoded)
	}
	for _, s := range notNumbers {
		f.Add(s)
	}
	f.Fuzz(checkCanonical)
}
