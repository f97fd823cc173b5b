package keys_test

import (
	"bytes"
	"math"
	"slices"
	"strings"
	"testing"

	"refit/api"
	"refit/keys"
	"refit/value"
)

const (
	least = math.MinInt
	most  = math.MaxInt
)

var (
	null      = api.Value{}
	badScales = []int{-1, 7, 8, 256, -256, 262, 1 << 32, 1<<32 + 1, least, most}
	badKinds  = []api.Kind{-1, 6, 7, 255, 256, 258, 260, -254, 1 << 32, 1<<32 + 2, least, most}
)

func integer(n int) api.Value { return api.Value{Kind: api.Int, N: n} }

func dec(n, scale int) api.Value { return api.Value{Kind: api.Dec, N: n, Scale: scale} }

func text(s string) api.Value { return api.Value{Kind: api.Text, S: s} }

func raw(s string) api.Value { return api.Value{Kind: api.Bytes, S: s} }

// every is all bytes from 0 to 255.
func every() string {
	var b []byte
	for c := range 256 {
		b = append(b, byte(c))
	}
	return string(b)
}

// encodings are keys of one value each, written out.
func encodings() []struct {
	v   api.Value
	key string
} {
	return []struct {
		v   api.Value
		key string
	}{
		{null, "\x00"},
		{value.Bool(false), "\x01\x00"},
		{value.Bool(true), "\x01\x01"},
		{integer(least), "\x02\x00\x00\x00\x00\x00\x00\x00\x00"},
		{integer(least + 1), "\x02\x00\x00\x00\x00\x00\x00\x00\x01"},
		{integer(-256), "\x02\x7f\xff\xff\xff\xff\xff\xff\x00"},
		{integer(-1), "\x02\x7f\xff\xff\xff\xff\xff\xff\xff"},
		{integer(0), "\x02\x80\x00\x00\x00\x00\x00\x00\x00"},
		{integer(1), "\x02\x80\x00\x00\x00\x00\x00\x00\x01"},   // the chapter's
		{integer(300), "\x02\x80\x00\x00\x00\x00\x00\x01\x2c"}, // DOC.md's
		{integer(0x0102030405060708), "\x02\x81\x02\x03\x04\x05\x06\x07\x08"},
		{integer(most), "\x02\xff\xff\xff\xff\xff\xff\xff\xff"},
		{dec(least, 0), "\x03\x00\x00\x00\x00\x00\x00\x00\x00\x00"},
		{dec(-1, 0), "\x03\x00\x7f\xff\xff\xff\xff\xff\xff\xff"},
		{dec(0, 0), "\x03\x00\x80\x00\x00\x00\x00\x00\x00\x00"},
		{dec(most, 0), "\x03\x00\xff\xff\xff\xff\xff\xff\xff\xff"},
		{dec(15, 1), "\x03\x01\x80\x00\x00\x00\x00\x00\x00\x0f"},
		{dec(0x0102030405060708, 5), "\x03\x05\x81\x02\x03\x04\x05\x06\x07\x08"},
		{dec(least, 6), "\x03\x06\x00\x00\x00\x00\x00\x00\x00\x00"},
		{dec(-1, 6), "\x03\x06\x7f\xff\xff\xff\xff\xff\xff\xff"},
		{dec(0, 6), "\x03\x06\x80\x00\x00\x00\x00\x00\x00\x00"},
		{dec(most, 6), "\x03\x06\xff\xff\xff\xff\xff\xff\xff\xff"},
		{text(""), "\x04\x00\x01"},
		{text("a"), "\x04a\x00\x01"},
		{text("\x00"), "\x04\x00\xff\x00\x01"},
		{text("\x01"), "\x04\x01\x00\x01"},
		{text("\x00\x01"), "\x04\x00\xff\x01\x00\x01"},
		{text("\x00\x00"), "\x04\x00\xff\x00\xff\x00\x01"},
		{text("a\x00"), "\x04a\x00\xff\x00\x01"},
		{text("a\x00b"), "\x04a\x00\xffb\x00\x01"},
		{text("\u00e9\U0010ffff"), "\x04\xc3\xa9\xf4\x8f\xbf\xbf\x00\x01"},
		{text(strings.Repeat("a", 200)), "\x04" + strings.Repeat("a", 200) + "\x00\x01"},
		{text(strings.Repeat("\x00", 200)), "\x04" + strings.Repeat("\x00\xff", 200) + "\x00\x01"},
		{text(strings.Repeat("\u00e9", 100)), "\x04" + strings.Repeat("\xc3\xa9", 100) + "\x00\x01"},
		{raw(""), "\x05\x00\x01"},
		{raw("a"), "\x05a\x00\x01"},
		{raw("\x00"), "\x05\x00\xff\x00\x01"},
		{raw("\x01"), "\x05\x01\x00\x01"},
		{raw("\xff"), "\x05\xff\x00\x01"},
		{raw("\x00\x01"), "\x05\x00\xff\x01\x00\x01"},
		{raw("\x00\xff"), "\x05\x00\xff\xff\x00\x01"},
		{raw("\xff\x00"), "\x05\xff\x00\xff\x00\x01"},
		{raw("\x00\xff\x00\x01"), "\x05\x00\xff\xff\x00\xff\x01\x00\x01"},
		{raw(every()[:200]), "\x05\x00\xff" + every()[1:200] + "\x00\x01"},
		{raw(every()[56:]), "\x05" + every()[56:] + "\x00\x01"},
		{raw(strings.Repeat("\x00", 200)), "\x05" + strings.Repeat("\x00\xff", 200) + "\x00\x01"},
		{raw(strings.Repeat("\xff", 200)), "\x05" + strings.Repeat("\xff", 200) + "\x00\x01"},
	}
}

// wrong are values that are not valid.
func wrong() []api.Value {
	l := []api.Value{
		{N: 1}, {N: -1}, {Scale: 1}, {S: "a"}, {S: "\x00"}, {N: 1, Scale: 2, S: "a"},
		{Kind: api.Bool, N: 2}, {Kind: api.Bool, N: -1}, {Kind: api.Bool, N: 256}, {Kind: api.Bool, N: 257}, {Kind: api.Bool, N: 1 << 32}, {Kind: api.Bool, N: most}, {Kind: api.Bool, N: least},
		{Kind: api.Bool, Scale: 1}, {Kind: api.Bool, N: 1, Scale: 1}, {Kind: api.Bool, N: 1, S: "TRUE"},
		{Kind: api.Int, Scale: 1}, {Kind: api.Int, N: 5, Scale: -1}, {Kind: api.Int, N: 5, S: "5"},
		{Kind: api.Dec, S: "5"}, {Kind: api.Dec, N: 5, Scale: 1, S: "0.5"},
		{Kind: api.Text, N: 1}, {Kind: api.Text, N: 1, S: "a"}, {Kind: api.Text, Scale: 1, S: "a"},
		{Kind: api.Bytes, N: 1}, {Kind: api.Bytes, N: 1, S: "a"}, {Kind: api.Bytes, Scale: 1, S: "a"},
		text(strings.Repeat("a", 201)), text(strings.Repeat("\x00", 201)), text(strings.Repeat("\u00e9", 100) + "a"), text(strings.Repeat("a", 100_000)),
		raw(strings.Repeat("a", 201)), raw(strings.Repeat("\x00", 100_000)),
	}
	for _, s := range badTexts() {
		l = append(l, text(s))
	}
	for _, scale := range badScales {
		l = append(l, dec(0, scale), dec(5, scale), dec(least, scale))
	}
	for _, kind := range badKinds {
		l = append(l, api.Value{Kind: kind}, api.Value{Kind: kind, N: 1}, api.Value{Kind: kind, N: 1, Scale: 1}, api.Value{Kind: kind, S: "a"})
	}
	return l
}

// badTexts are not valid UTF-8.
func badTexts() []string {
	return []string{
		"\xff", "\x80", "a\x80", "\xc3", "a\xc3", "\xc3a", "\x00\xff", "\xff\x00", // a byte of its own, a part of two
		"\xe2\x82", "\xf0\x9f\x98", strings.Repeat("a", 199) + "\xc3", // parts of more
		"\xc3\x00\xa9",                         // two parts with a 00 between them
		"\xc0\x80", "\xc1\xbf", "\xe0\x80\x80", // longer than need be
		"\xed\xa0\x80", "\xed\xbf\xbf", // surrogates
		"\xf4\x90\x80\x80", "\xf8\x88\x80\x80\x80", // above 10FFFF
	}
}

// values are those of encodings.
func values() []api.Value {
	var l []api.Value
	for _, c := range encodings() {
		l = append(l, c.v)
	}
	return l
}

// escaped describes the bytes of a string in a key a second time.
func escaped(s string) string {
	return strings.ReplaceAll(s, "\x00", "\x00\xff") + "\x00\x01"
}

func wantNext(t *testing.T, b string, v api.Value, rest string) {
	t.Helper()
	got, left, ok := keys.Next([]byte(b))
	if got != v || string(left) != rest || !ok {
		t.Errorf("Next(% x) is %#v, % x, %#v, want %#v, % x", b, got, left, ok, v, rest)
	}
}

func wantNoNext(t *testing.T, b string) {
	t.Helper()
	if v, rest, ok := keys.Next([]byte(b)); v != null || len(rest) != 0 || ok {
		t.Errorf("Next(% x) is %#v, % x, %#v", b, v, rest, ok)
	}
}

func wantGet(t *testing.T, b string, l ...api.Value) {
	t.Helper()
	if got, ok := keys.Get([]byte(b)); !slices.Equal(got, l) || !ok {
		t.Errorf("Get(% x) is %#v, %#v, want %#v", b, got, ok, l)
	}
}

func wantNoGet(t *testing.T, b string) {
	t.Helper()
	if l, ok := keys.Get([]byte(b)); len(l) != 0 || ok {
		t.Errorf("Get(% x) is %#v, %#v", b, l, ok)
	}
}

// wantNeither is for what does not begin with a value.
func wantNeither(t *testing.T, b string) {
	t.Helper()
	wantNoNext(t, b)
	wantNoGet(t, b)
	wantNoGet(t, "\x00"+b)
	wantNoGet(t, "\x02\x80\x00\x00\x00\x00\x00\x00\x00"+b)
}

// P5.1

func TestPut(t *testing.T) {
	for _, c := range encodings() {
		if got := keys.Put(c.v); string(got) != c.key {
			t.Errorf("Put(%#v) is % x, want % x", c.v, got, c.key)
		}
	}
}

func TestPutOfExamples(t *testing.T) {
	for _, c := range []struct {
		l   []api.Value
		key string
	}{
		{nil, ""},
		{[]api.Value{}, ""},
		{[]api.Value{text("a\x00"), null}, "\x04\x61\x00\xff\x00\x01\x00"}, // the chapter's
		{[]api.Value{null, null, null}, "\x00\x00\x00"},
		{[]api.Value{text(""), text("")}, "\x04\x00\x01\x04\x00\x01"},
		{[]api.Value{value.Bool(true), raw("\x00\xff"), integer(-1)}, "\x01\x01\x05\x00\xff\xff\x00\x01\x02\x7f\xff\xff\xff\xff\xff\xff\xff"},
		{[]api.Value{dec(-1, 2), dec(-1, 0)}, "\x03\x02\x7f\xff\xff\xff\xff\xff\xff\xff\x03\x00\x7f\xff\xff\xff\xff\xff\xff\xff"},
	} {
		if got := keys.Put(c.l...); string(got) != c.key {
			t.Errorf("Put(%#v) is % x, want % x", c.l, got, c.key)
		}
		wantGet(t, c.key, c.l...)
	}
	if got := keys.Put(); len(got) != 0 {
		t.Errorf("Put() is % x", got)
	}
}

// A key is the encodings of its values, one behind the other, and Get finds them again.
func TestPutAndGetOfSeveral(t *testing.T) {
	l := values()
	for i, a := range l {
		for k, b := range l {
			key := encodings()[i].key + encodings()[k].key
			if got := keys.Put(a, b); string(got) != key {
				t.Errorf("Put(%#v, %#v) is % x, want % x", a, b, got, key)
			}
			wantGet(t, key, a, b)
		}
	}
	whole := ""
	for _, c := range encodings() {
		whole += c.key
	}
	if got := keys.Put(l...); string(got) != whole {
		t.Errorf("Put of all is % x, want % x", got, whole)
	}
	wantGet(t, whole, l...)
}

func TestPutOfWrongValues(t *testing.T) {
	for _, v := range wrong() {
		if got := keys.Put(v); string(got) != "\x00" {
			t.Errorf("Put(%#v) is % x", v, got)
		}
		if got := keys.Put(integer(0), v, text("a")); string(got) != "\x02\x80\x00\x00\x00\x00\x00\x00\x00\x00\x04a\x00\x01" {
			t.Errorf("Put(0, %#v, 'a') is % x", v, got)
		}
	}
}

func TestNext(t *testing.T) {
	for _, c := range encodings() {
		// What stands behind the value need not be a key.
		for _, rest := range []string{"", "\x00", "\x01", "\xff", "\x00\x01", "\x00\xff", "\x06", "abc", c.key, c.key[:len(c.key)-1]} {
			wantNext(t, c.key+rest, c.v, rest)
		}
		wantGet(t, c.key, c.v)
	}
}

// Each byte, alone and within others, is kept by Bytes and, if it is a rune of its own, by a Text.
func TestEachByte(t *testing.T) {
	for c := range 256 {
		for _, s := range []string{string([]byte{byte(c)}), string([]byte{'a', byte(c), byte(c), 'b'}), string([]byte{0, byte(c), 0}), string([]byte{byte(c), 0, 1, byte(c)})} {
			wantKey(t, raw(s), "\x05"+escaped(s))
			if c < 0x80 {
				wantKey(t, text(s), "\x04"+escaped(s))
			} else {
				wantNeither(t, "\x04"+escaped(s))
			}
		}
	}
}

func wantKey(t *testing.T, v api.Value, key string) {
	t.Helper()
	if got := keys.Put(v); string(got) != key {
		t.Errorf("Put(%#v) is % x, want % x", v, got, key)
	}
	wantNext(t, key, v, "")
	wantGet(t, key, v)
}

// Each power of two reaches each bit of a number.
func TestEachBit(t *testing.T) {
	for bit := range 64 {
		n := int(uint64(1) << bit)
		number := make([]byte, 8)
		number[7-bit/8] = 1 << (bit % 8)
		number[0] ^= 0x80
		wantKey(t, integer(n), "\x02"+string(number))
		wantKey(t, dec(n, 3), "\x03\x03"+string(number))
	}
}

func TestEachScale(t *testing.T) {
	const number = "\x7f\xff\xff\xff\xff\xff\xff\xfe"
	for scale := range 256 {
		key := "\x03" + string([]byte{byte(scale)}) + number
		if scale <= api.MaxScale {
			wantKey(t, dec(-2, scale), key)
		} else {
			wantNeither(t, key)
			wantNeither(t, key+"\x00")
		}
	}
}

func TestNothing(t *testing.T) {
	wantNoNext(t, "")
	wantGet(t, "")
	if v, rest, ok := keys.Next(nil); v != null || len(rest) != 0 || ok {
		t.Errorf("Next(nil) is %#v, % x, %#v", v, rest, ok)
	}
	if l, ok := keys.Get(nil); len(l) != 0 || !ok {
		t.Errorf("Get(nil) is %#v, %#v", l, ok)
	}
}

func TestBytesThatEndTooEarly(t *testing.T) {
	for _, c := range encodings() {
		for size := 1; size < len(c.key); size++ {
			wantNeither(t, c.key[:size])
		}
	}
	for _, b := range []string{"\x04a\x00\xff", "\x05\x00\xff\x00\xff", "\x04\x01", "\x05\xff\xff", "\x03\x07"} {
		wantNeither(t, b)
	}
}

func TestBytesOfNoKind(t *testing.T) {
	for kind := 6; kind < 256; kind++ {
		for _, rest := range []string{"", "\x00", "\x01", "\x00\x01", "\x80\x00\x00\x00\x00\x00\x00\x00", "\x00\x80\x00\x00\x00\x00\x00\x00\x00", "a\x00\x01"} {
			wantNeither(t, string([]byte{byte(kind)})+rest)
		}
	}
}

func TestBytesOfNoBool(t *testing.T) {
	for n := 2; n < 256; n++ {
		wantNeither(t, "\x01"+string([]byte{byte(n)}))
		wantNeither(t, "\x01"+string([]byte{byte(n)})+"\x00")
	}
}

func TestBytesOfNoMark(t *testing.T) {
	for second := range 256 {
		if second == 0x01 || second == 0xff {
			continue
		}
		for _, kind := range []string{"\x04", "\x05"} {
			for _, before := range []string{"", "a", "\x00\xff"} {
				b := kind + before + "\x00" + string([]byte{byte(second)})
				wantNeither(t, b)
				wantNeither(t, b+"\x00\x01")
				wantNeither(t, b+"\x01")
			}
		}
	}
}

func TestBytesOfNoText(t *testing.T) {
	for _, s := range badTexts() {
		wantNeither(t, "\x04"+escaped(s))
		wantNeither(t, "\x04"+escaped("a"+s))
		wantKey(t, raw(s), "\x05"+escaped(s))
	}
}

func TestBytesOfLongStrings(t *testing.T) {
	for _, s := range []string{"a", "\x00", "\x01"} {
		for _, size := range []int{201, 202, 256, 400, 100_000} {
			wantNeither(t, "\x04"+escaped(strings.Repeat(s, size)))
			wantNeither(t, "\x05"+escaped(strings.Repeat(s, size)))
		}
	}
	wantNeither(t, "\x04"+escaped(strings.Repeat("\u00e9", 100)+"a"))
	wantNeither(t, "\x04"+strings.Repeat("a", 100_000))
	wantNeither(t, "\x05"+strings.Repeat("\xff", 201)+"\x00\x01")
}

func TestGetOfBytesBehind(t *testing.T) {
	for _, c := range encodings() {
		for _, rest := range []string{"\x01", "\x01\x02", "\x02", "\x02\x80", "\x03\x07\x80\x00\x00\x00\x00\x00\x00\x00", "\x04", "\x04a", "\x04\x00", "\x05\x00\x02", "\x06", "\xff", "\x00\xff"} {
			wantNoGet(t, c.key+rest)
			wantNoGet(t, c.key+c.key+rest)
		}
	}
}

// TestGetOfShortBytes tries all byte strings of few bytes against the keys that can be made of these bytes.
func TestGetOfShortBytes(t *testing.T) {
	const letters, longest = "\x00\x01\x02\x03\x04\x05\x06A\xc3\xa9\xff", 5
	found, byLength := shortKeys(letters, longest), []string{""}
	for len(byLength) > 0 {
		b := byLength[0]
		byLength = byLength[1:]
		if l, there := found[b]; there {
			wantGet(t, b, l...)
		} else {
			wantNoGet(t, b)
		}
		if len(b) < longest {
			for i := range len(letters) {
				byLength = append(byLength, b+letters[i:i+1])
			}
		}
	}
}

// shortKeys makes keys of at most so many bytes, of values that need no others than these letters.
func shortKeys(letters string, longest int) map[string][]api.Value {
	single := map[string]api.Value{"\x00": null, "\x01\x00": value.Bool(false), "\x01\x01": value.Bool(true)}
	contents := []string{""}
	for len(contents) > 0 {
		s := contents[0]
		contents = contents[1:]
		if size := len(escaped(s)) + 1; size > longest {
			continue
		}
		single["\x05"+escaped(s)] = raw(s)
		if value.Right(text(s)) {
			single["\x04"+escaped(s)] = text(s)
		}
		for i := range len(letters) {
			contents = append(contents, s+letters[i:i+1])
		}
	}
	found := map[string][]api.Value{"": nil}
	waiting := []string{""}
	for len(waiting) > 0 {
		key := waiting[0]
		waiting = waiting[1:]
		for one, v := range single {
			if len(key)+len(one) <= longest {
				found[key+one] = append(slices.Clone(found[key]), v)
				waiting = append(waiting, key+one)
			}
		}
	}
	return found
}

func TestGetOfLongKeys(t *testing.T) {
	const many = 100_000
	l := slices.Repeat([]api.Value{text("a\x00"), null, integer(-7)}, many)
	key := string(keys.Put(l...))
	wantGet(t, key, l...)
	wantNoGet(t, key+"\x06")
	wantNext(t, key, l[0], key[6:])
}

// P5.2

// ordered are values of one type each, which begin with NULL, and each of which comes before the next.
func ordered() [][]api.Value {
	l := [][]api.Value{
		{null, value.Bool(false), value.Bool(true)},
		{null, integer(least), integer(least + 1), integer(-1 << 32), integer(-257), integer(-256), integer(-255), integer(-2), integer(-1),
			integer(0), integer(1), integer(2), integer(127), integer(128), integer(255), integer(256), integer(1 << 32), integer(most - 1), integer(most)},
		{null, text(""), text("\x00"), text("\x00\x00"), text("\x00\x01"), text("\x00a"), text("\x01"), text("\x01\x00"), text("A"), text("a"), text("a\x00"), text("a\x00\x00"), text("a\x00b"), text("a\x01"), text("aa"), text("ab"), text("b"),
			text(strings.Repeat("x", 199)), text(strings.Repeat("x", 199) + "\x00"), text(strings.Repeat("x", 200)), text("\x7f"), text("\u00e9"), text("\uffff"), text("\U0001f600"), text("\U0010ffff")},
		{null, raw(""), raw("\x00"), raw("\x00\x00"), raw("\x00\x01"), raw("\x00\xff"), raw("\x01"), raw("\x01\x00"), raw("a"), raw("a\x00"), raw("a\x00\x01"), raw("a\x00\xff"), raw("a\x01"), raw("aa"), raw("\x7f"), raw("\x80"), raw("\xfe\xff"),
			raw("\xff"), raw("\xff\x00"), raw("\xff\x01"), raw("\xff\xff"), raw(strings.Repeat("\xff", 199)), raw(strings.Repeat("\xff", 199) + "\x00"), raw(strings.Repeat("\xff", 200))},
	}
	for scale := range api.MaxScale + 1 {
		l = append(l, []api.Value{null, dec(least, scale), dec(least+1, scale), dec(-1_000_000, scale), dec(-256, scale), dec(-2, scale), dec(-1, scale),
			dec(0, scale), dec(1, scale), dec(2, scale), dec(255, scale), dec(256, scale), dec(1_000_000, scale), dec(most-1, scale), dec(most, scale)})
	}
	return l
}

// firstOrder compares lists by layer 3's Order of the first values that differ.
func firstOrder(a, b []api.Value) int {
	return slices.CompareFunc(a, b, value.Order)
}

func wantOrder(t *testing.T, a, b []api.Value) {
	t.Helper()
	if got, want := bytes.Compare(keys.Put(a...), keys.Put(b...)), firstOrder(a, b); got != want {
		t.Errorf("the keys of %#v and %#v compare as %d, want %d", a, b, got, want)
	}
}

func TestOrderOfOne(t *testing.T) {
	for _, l := range ordered() {
		for i, a := range l {
			for k, b := range l {
				if got := firstOrder(l[i:i+1], l[k:k+1]); got != sign(i-k) {
					t.Fatalf("the list has %#v and %#v in the wrong order", a, b)
				}
				wantOrder(t, []api.Value{a}, []api.Value{b})
			}
		}
	}
}

func sign(n int) int {
	switch {
	case n < 0:
		return -1
	case n > 0:
		return 1
	}
	return 0
}

// Whatever stands behind the first value that differs does not matter, nor do equal values before it.
func TestOrderOfSeveral(t *testing.T) {
	for _, first := range ordered()[:5] {
		for _, second := range ordered()[:5] {
			low, high := second[0], second[len(second)-1]
			for _, a := range first {
				for _, b := range first {
					wantOrder(t, []api.Value{a, high}, []api.Value{b, low})
					wantOrder(t, []api.Value{high, a, high}, []api.Value{high, b, low})
				}
			}
		}
	}
}

func TestOrderOfPairs(t *testing.T) {
	texts, numbers := ordered()[2], ordered()[1]
	for _, a := range texts {
		for _, b := range texts {
			for _, m := range numbers {
				for _, n := range numbers {
					wantOrder(t, []api.Value{a, m}, []api.Value{b, n})
				}
			}
		}
	}
}

// Values of several types have keys too: none of them begins another of as many values, and only equal ones are equal.
func TestNoKeyIsAPrefix(t *testing.T) {
	l := slices.Concat(values(), slices.Concat(ordered()...))
	for _, a := range l {
		for _, b := range l {
			wantNoPrefix(t, []api.Value{a}, []api.Value{b})
			wantNoPrefix(t, []api.Value{a, b}, []api.Value{b, a})
			wantNoPrefix(t, []api.Value{a, null}, []api.Value{b, text("\x00\x01")})
		}
	}
}

func wantNoPrefix(t *testing.T, a, b []api.Value) {
	t.Helper()
	if bytes.HasPrefix(keys.Put(a...), keys.Put(b...)) != slices.Equal(a, b) {
		t.Errorf("the key of %#v begins with that of %#v, or should do so", a, b)
	}
}

// P5.3

func TestAbove(t *testing.T) {
	for _, c := range []struct{ b, want string }{
		{"", ""},
		{"\xff", ""},
		{"\xff\xff", ""},
		{strings.Repeat("\xff", 1000), ""},
		{"\x61\xff", "\x62"}, // the chapter's
		{"a", "b"},
		{"ab", "ac"},
		{"\x00", "\x01"},
		{"\x00\x00", "\x00\x01"},
		{"\x00\xff", "\x01"},
		{"\x7f", "\x80"},
		{"\xfe", "\xff"},
		{"\xfe\xff", "\xff"},
		{"\xff\x00", "\xff\x01"},
		{"\xff\xfe", "\xff\xff"},
		{"\xff\xfe\xff\xff", "\xff\xff"},
		{"\xffa\xff", "\xffb"},
		{"a\xff\xff\xff", "b"},
		{"a\x00\xff", "a\x01"},
		{"a\x80", "a\x81"}, // bytes are no runes
		{"\xef\xbf\xbd", "\xef\xbf\xbe"},
		{"\xef\xbf\xbd\xff", "\xef\xbf\xbe"},
		{"\x02\x7f\xff\xff\xff\xff\xff\xff\xff", "\x02\x80"},
	} {
		if got := keys.Above([]byte(c.b)); string(got) != c.want {
			t.Errorf("Above(% x) is % x, want % x", c.b, got, c.want)
		}
	}
	if got := keys.Above(nil); len(got) != 0 {
		t.Errorf("Above(nil) is % x", got)
	}
}

func TestAboveOfEachByte(t *testing.T) {
	for c := range 255 {
		for _, end := range []string{"", "\xff", "\xff\xff"} {
			if got := keys.Above([]byte("a" + string([]byte{byte(c)}) + end)); string(got) != "a"+string([]byte{byte(c + 1)}) {
				t.Errorf("Above(61 %02x % x) is % x", c, end, got)
			}
		}
	}
}

// TestAboveOfShortBytes holds Above against all byte strings of few bytes: those that are less are less than b or begin with it.
func TestAboveOfShortBytes(t *testing.T) {
	const letters, longest = "\x00\x01\x80\xfe\xff", 4
	l := []string{""}
	for i := 0; i < len(l); i++ {
		if len(l[i]) == longest {
			break
		}
		for k := range len(letters) {
			l = append(l, l[i]+letters[k:k+1])
		}
	}
	for _, b := range l {
		above := string(keys.Above([]byte(b)))
		for _, s := range l {
			below := above == "" || s < above
			if below != (s < b || strings.HasPrefix(s, b)) {
				t.Errorf("Above(% x) is % x, which is wrong for % x", b, above, s)
			}
		}
	}
}

// Between the key of the first values and Above of it are exactly the keys that begin with these values.
func TestAboveOfKeys(t *testing.T) {
	for _, l := range ordered() {
		for _, a := range l {
			from := keys.Put(a)
			to := keys.Above(from)
			for _, b := range l {
				for _, n := range []int{least, 0, most} {
					key := keys.Put(b, integer(n))
					within := bytes.Compare(from, key) <= 0 && bytes.Compare(key, to) < 0
					if within != (a == b) {
						t.Errorf("% x is within % x and % x: %#v", key, from, to, within)
					}
				}
			}
		}
	}
}

// Arguments and results (Rules 4 and 5)

func TestArgumentsAreKept(t *testing.T) {
	for _, s := range []string{"\x00\x04a\x00\xff\x00\x01\x01", "\x04a\x00\xff\x00\x01", "\x05\xff\x00\x01a\xff", "\x02\x7f\xff\xff\xff\xff\xff\xff\xff", "a\xff\xff", "\xff", ""} {
		whole := []byte(s + "spare")
		b := whole[:len(s)]
		keys.Next(b)
		keys.Get(b)
		keys.Above(b)
		if string(whole) != s+"spare" {
			t.Errorf("% x has become % x", s+"spare", whole)
		}
	}
	l := []api.Value{text("a"), {Kind: api.Bool, N: 2}, null, integer(1)}
	keys.Put(l[:3]...)
	if !slices.Equal(l, []api.Value{text("a"), {Kind: api.Bool, N: 2}, null, integer(1)}) {
		t.Errorf("the values have become %#v", l)
	}
}

// fill overwrites b and what is spare behind it.
func fill(b []byte) {
	b = b[:cap(b)]
	for i := range b {
		b[i] = 'z'
	}
}

func TestResultsAreNewMemory(t *testing.T) {
	const key = "\x04a\x00\xffb\x00\x01\x05cd\x00\x01\x00"
	b := []byte(key)
	_, rest, _ := keys.Next(b)
	fill(rest)
	fill(keys.Above(b))
	if string(b) != key {
		t.Errorf("% x has become % x", key, b)
	}
	v, rest, _ := keys.Next(b)
	l, _ := keys.Get(b)
	above := keys.Above(b)
	fill(b)
	if v != text("a\x00b") || string(rest) != key[7:] || !slices.Equal(l, []api.Value{text("a\x00b"), raw("cd"), null}) || string(above) != key[:len(key)-1]+"\x01" {
		t.Errorf("the results have become %#v, % x, %#v, % x", v, rest, l, above)
	}
	first := keys.Put(l...)
	fill(first)
	if second := keys.Put(l...); string(second) != key {
		t.Errorf("Put is % x, want % x", second, key)
	}
}
