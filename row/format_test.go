package row_test

import (
	"math/rand"
	"slices"
	"strings"
	"testing"

	"refit/api"
	"refit/row"
	"refit/wire"
)

// count is the encoding of a number, which layer 1's own tests hold against the document.
func count(n int) string {
	var w wire.Writer
	w.Number(n)
	return string(w.Bytes())
}

// wantBoth wants that b is the encoding of r, and r the row of that encoding.
func wantBoth(t *testing.T, r []api.Cell, b string) {
	t.Helper()
	got, err := row.Put(r)
	if err != api.OK || string(got) != b {
		t.Errorf("Put(%v) is %x, %v, want %x", r, got, err, b)
	}
	parsed, ok := row.Parse([]byte(b))
	if !ok || !slices.Equal(parsed, r) {
		t.Errorf("Parse(%x) is %v, %v, want %v", b, parsed, ok, r)
	}
}

func wantNoRow(t *testing.T, b string) {
	t.Helper()
	if r, ok := row.Parse([]byte(b)); ok || len(r) != 0 {
		t.Errorf("Parse(%x) is %v, %v", b, r, ok)
	}
}

// P11.2: Put and Parse

func TestExample(t *testing.T) {
	wantBoth(t, []api.Cell{cell(2, text("a"))}, "\x01\x01\x01\x02\x01\x04\x01\x01\x61")
}

func TestNoCells(t *testing.T) {
	wantBoth(t, nil, "\x00")
	wantBoth(t, []api.Cell{}, "\x00")
	wantNoRow(t, "")
	if r, ok := row.Parse(nil); ok || len(r) != 0 {
		t.Errorf("Parse of nil is %v, %v", r, ok)
	}
}

func TestEachValue(t *testing.T) {
	for _, c := range encodings() {
		wantBoth(t, []api.Cell{cell(0, c.v)}, "\x01\x01\x00"+c.encoded)
		wantBoth(t, []api.Cell{cell(300, c.v)}, "\x01\x01\x02\x01\x2c"+c.encoded)
		for _, d := range encodings() {
			both := "\x01\x02" + "\x01\x01" + c.encoded + "\x01\x07" + d.encoded
			wantBoth(t, []api.Cell{cell(1, c.v), cell(7, d.v)}, both)
		}
	}
}

func TestEachColumn(t *testing.T) {
	for _, column := range []int{0, 1, 2, 11, 12, 13, 127, 128, 255, 256, 1<<16 - 1, 1 << 32, most - 1, most} {
		wantBoth(t, []api.Cell{cell(column, text(""))}, "\x01\x01"+count(column)+"\x01\x04\x00")
	}
	wantBoth(t, []api.Cell{cell(most-1, integer(0)), cell(most, integer(1))},
		"\x01\x02"+count(most-1)+"\x01\x02\x00"+count(most)+"\x01\x02\x01\x01")
}

func TestManyCells(t *testing.T) {
	for _, n := range []int{2, 3, api.MaxColumns, api.MaxColumns + 1, 127, 128, 255, 256, 257, 1000} {
		var r []api.Cell
		b := count(n)
		for i := range n {
			c := encodings()[i%len(encodings())]
			r = append(r, cell(2*i, c.v))
			b += count(2*i) + c.encoded
		}
		wantBoth(t, r, b)
	}
}

func TestPutOfNoRow(t *testing.T) {
	for _, r := range notRows() {
		if b, err := row.Put(r); err != api.ErrArg || len(b) != 0 {
			t.Errorf("Put(%v) is %x, %v", r, b, err)
		}
	}
}

func TestParseOfWhatPutReturned(t *testing.T) {
	for _, r := range rows() {
		b, err := row.Put(r)
		if err != api.OK {
			t.Errorf("Put(%v): %v", r, err)
		}
		before := slices.Clone(b)
		got, ok := row.Parse(b)
		if !ok || !slices.Equal(got, r) || !slices.Equal(b, before) {
			t.Errorf("Parse(%x) is %v, %v, want %v", before, got, ok, r)
		}
	}
}

func TestParseOfBeginningsAndMore(t *testing.T) {
	for _, r := range rows() {
		b, _ := row.Put(r)
		// A step, so that the longest row takes no longer than the others.
		for size := 0; size < len(b); size += 1 + len(b)/500 {
			wantNoRow(t, string(b[:size]))
		}
		for _, more := range []string{"\x00", "\x01", "\xff", "\x01\x01", string(b)} {
			wantNoRow(t, string(b)+more)
		}
	}
}

func TestParseOfWrongCounts(t *testing.T) {
	one, two := "\x00\x01\x02\x01\x07", "\x01\x01\x01\x02\x01\x08"
	wantBoth(t, []api.Cell{cell(0, integer(7)), cell(1, integer(8))}, "\x01\x02"+one+two)
	for _, n := range []int{0, 1, 3, 4, 11, 12, 13, 100, 256, 1 << 16, 1 << 32, 1<<32 + 2, most, -1, -2, -3, least} {
		wantNoRow(t, count(n)+one+two)
	}
	for _, n := range []int{1, 2, most, -1, least} {
		wantNoRow(t, count(n))
	}
}

func TestParseOfWrongColumns(t *testing.T) {
	for _, columns := range [][]int{
		{-1}, {-2}, {least}, {-1, 0}, {-2, -1}, {0, -1}, {0, 0}, {1, 1}, {1, 0}, {3, 2},
		{0, 1, 1}, {0, 0, 1}, {0, 2, 1}, {2, 0, 1}, {0, 1, -1}, {most, most}, {most, least}, {most, 0},
	} {
		b := count(len(columns))
		for _, c := range columns {
			b += count(c) + "\x01\x04\x01\x01a"
		}
		wantNoRow(t, b)
	}
}

func TestParseOfWrongKinds(t *testing.T) {
	for _, kind := range append([]api.Kind{api.Null}, badKinds...) {
		for _, behind := range []string{"", "\x00", "\x01\x01", "\x00\x00", "\x01\x01\x01\x01", "\x01\x01a"} {
			wantNoRow(t, "\x01\x01\x00"+count(int(kind))+behind)
			wantNoRow(t, "\x01\x02\x00"+count(int(kind))+behind+"\x01\x01"+"\x01\x04\x00")
		}
	}
}

func TestParseOfWrongBools(t *testing.T) {
	for _, n := range []int{2, 3, 255, 256, 257, 1 << 32, 1<<32 + 1, most, -1, -2, least} {
		wantNoRow(t, "\x01\x01\x00\x01\x01"+count(n))
	}
}

func TestParseOfWrongDecs(t *testing.T) {
	for _, scale := range badScales {
		for _, n := range []int{0, 5, -5, most, least} {
			wantNoRow(t, "\x01\x01\x00\x01\x03"+count(scale)+count(n))
		}
	}
	wantNoRow(t, "\x01\x01\x00\x01\x03\x00")
}

func TestParseOfWrongTexts(t *testing.T) {
	long := strings.Repeat("a", api.MaxText+1)
	for _, s := range []string{"\xff", "a\x80", "\xc3", "\xed\xa0\x80", "\xf4\x90\x80\x80", "\xc0\x80", long} {
		wantNoRow(t, "\x01\x01\x00\x01\x04"+count(len(s))+s)
	}
	wantNoRow(t, "\x01\x01\x00\x01\x05"+count(len(long))+long)
	for _, kind := range []string{"\x01\x04", "\x01\x05"} {
		for _, n := range []int{1, 3, 200, 1 << 32, most, -1, -2, least} {
			wantNoRow(t, "\x01\x01\x00"+kind+count(n)+"ab")
		}
	}
}

// longer is the encoding of a number with a leading zero byte, which layer 1 has none of.
func longer(number string) string {
	return string([]byte{number[0] + 1, 0}) + number[1:]
}

func TestParseOfNumbersThatAreNotShort(t *testing.T) {
	for _, parts := range [][]string{
		{"\x00"}, // no cells
		{"\x01\x01", "\x00", "\x01\x01", "\x01\x01"},         // TRUE
		{"\x01\x01", "\x00", "\x01\x01", "\x00"},             // FALSE
		{"\x01\x01", "\x01\x01", "\x01\x02", "\x80"},         // -1
		{"\x01\x01", "\x00", "\x01\x03", "\x01\x01", "\x80"}, // -0.1
		{"\x01\x01", "\x00", "\x01\x03", "\x00", "\x00"},     // 0.
		{"\x01\x01", "\x00", "\x01\x04", "\x01\x01", "a"},    // 'a'
		{"\x01\x01", "\x00", "\x01\x05", "\x00"},             // X''
	} {
		if r, ok := row.Parse([]byte(strings.Join(parts, ""))); !ok {
			t.Errorf("Parse(%x) is %v, false", parts, r)
		}
		for i, part := range parts {
			if part == "a" {
				continue
			}
			changed := slices.Clone(parts)
			changed[i] = longer(part)
			wantNoRow(t, strings.Join(changed, ""))
		}
	}
	wantNoRow(t, "\x11\x01\x00\x01\x02\x00") // a header's other bit
	wantNoRow(t, "\x01\x01\x10\x01\x02\x00")
	wantNoRow(t, "\x01\x01\x00\x41\x02\x00")
	wantNoRow(t, "\x01\x01\x00\x01\x02\x20")
}

// wantOneEncoding wants that b is the encoding of nothing, or of one row alone.
func wantOneEncoding(t *testing.T, b []byte) bool {
	t.Helper()
	r, ok := row.Parse(b)
	if !ok {
		wantNoRow(t, string(b))
		return false
	}
	again, err := row.Put(r)
	if !row.Right(r) || err != api.OK || string(again) != string(b) {
		t.Errorf("Parse(%x) is %v, whose encoding is %x, %v", b, r, again, err)
	}
	return true
}

// shortEncodings are those of at most 7 bytes from the letters 00, 01, 02, 03, 04 and 80: of no cells or one.
func shortEncodings() []string {
	// The numbers 0, -1, 1 to 4 and 128.
	numbers := []string{"\x00", "\x80", "\x01\x01", "\x01\x02", "\x01\x03", "\x01\x04", "\x01\x80"}
	values := []string{"\x01\x01\x00", "\x01\x01\x01\x01", "\x01\x04\x00"} // FALSE, TRUE and an empty text
	for _, n := range numbers {
		values = append(values, "\x01\x02"+n, "\x01\x03\x00"+n)
	}
	l := []string{"\x00"}
	for _, column := range numbers {
		for _, v := range values {
			if b := "\x01\x01" + column + v; column != "\x80" && len(b) <= 7 {
				l = append(l, b)
			}
		}
	}
	slices.Sort(l)
	return l
}

func TestParseOfShortBytes(t *testing.T) {
	var found []string
	var check func(b []byte, left int)
	check = func(b []byte, left int) {
		if wantOneEncoding(t, b) {
			found = append(found, string(b))
		}
		if left == 0 {
			return
		}
		for _, c := range []byte("\x00\x01\x02\x03\x04\x80") {
			check(append(slices.Clip(b), c), left-1)
		}
	}
	check(nil, 7)
	slices.Sort(found)
	if want := shortEncodings(); !slices.Equal(found, want) {
		t.Errorf("the short encodings are %x, want %x", found, want)
	}
}

func TestParseOfChangedBytes(t *testing.T) {
	for _, r := range rows() {
		b, _ := row.Put(r)
		if len(b) > 100 {
			continue
		}
		for i := range b {
			for c := range 256 {
				changed := slices.Clone(b)
				changed[i] = byte(c)
				wantOneEncoding(t, changed)
			}
		}
	}
}

func TestParseOfRandomBytes(t *testing.T) {
	random := rand.New(rand.NewSource(12))
	parts := []string{"\x00", "\x01", "\x02", "\x01\x01", "\x01\x02", "\x01\x03", "\x01\x04", "\x80", "a", "\xff", "\x81\x05"}
	for range 50000 {
		b := "\x01" + string(rune(random.Intn(4)))
		for range random.Intn(16) {
			b += parts[random.Intn(len(parts))]
		}
		wantOneEncoding(t, []byte(b))
	}
}

// Rule 5: results are new memory

func TestResultsAreNewMemory(t *testing.T) {
	r := spare([]api.Cell{cell(0, text("abc")), cell(1, raw("def"))})
	first, _ := row.Put(r)
	second, _ := row.Put(r)
	encoded := string(first)
	clear(first[:cap(first)])
	if string(second) != encoded {
		t.Errorf("two results of Put share memory")
	}
	b := append([]byte(encoded), "\x00\x00\x00"...)[:len(encoded)]
	parsed, ok := row.Parse(b)
	again, _ := row.Parse(b)
	if string(b[:cap(b)][:len(encoded)+3]) != encoded+"\x00\x00\x00" {
		t.Errorf("Parse changed its argument to %x", b)
	}
	clear(b[:cap(b)])
	if !ok || !slices.Equal(parsed, r) {
		t.Errorf("Parse kept its argument: %v", parsed)
	}
	clear(whole(parsed))
	if !slices.Equal(again, r) {
		t.Errorf("two results of Parse share memory")
	}
}
