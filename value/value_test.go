package value_test

import (
	"math"
	"math/big"
	"slices"
	"strconv"
	"strings"
	"testing"
	"unicode/utf8"

	"refit/api"
	"refit/value"
)

const (
	least = math.MinInt
	most  = math.MaxInt
)

var (
	null      = api.Value{}
	badScales = []int{-1, 7, 8, 256, -256, 1 << 32, 1<<32 + 1, least, most}
	badKinds  = []api.Kind{-1, 6, 7, 255, 256, 258, -254, 1 << 32, 1<<32 + 2, least, most}
)

func integer(n int) api.Value { return api.Value{Kind: api.Int, N: n} }

func dec(n, scale int) api.Value { return api.Value{Kind: api.Dec, N: n, Scale: scale} }

func text(s string) api.Value { return api.Value{Kind: api.Text, S: s} }

func raw(s string) api.Value { return api.Value{Kind: api.Bytes, S: s} }

// every is all bytes from 0 to 255.
func every() string {
	var b []byte
	for c := range 256 {
		b = append(b, byte(c))
	}
	return string(b)
}

// rightTypes are all valid types, with their names.
func rightTypes() map[api.Type]string {
	return map[api.Type]string{
		{Kind: api.Bool}:          "BOOL",
		{Kind: api.Int}:           "INT",
		{Kind: api.Dec}:           "DECIMAL(0)",
		{Kind: api.Dec, Scale: 1}: "DECIMAL(1)",
		{Kind: api.Dec, Scale: 2}: "DECIMAL(2)",
		{Kind: api.Dec, Scale: 3}: "DECIMAL(3)",
		{Kind: api.Dec, Scale: 4}: "DECIMAL(4)",
		{Kind: api.Dec, Scale: 5}: "DECIMAL(5)",
		{Kind: api.Dec, Scale: 6}: "DECIMAL(6)",
		{Kind: api.Text}:          "TEXT",
		{Kind: api.Bytes}:         "BYTES",
	}
}

func wrongTypes() []api.Type {
	l := []api.Type{{}}
	for _, scale := range append([]int{1, 2, 6}, badScales...) {
		for _, kind := range []api.Kind{api.Null, api.Bool, api.Int, api.Text, api.Bytes} {
			l = append(l, api.Type{Kind: kind, Scale: scale})
		}
	}
	for _, scale := range badScales {
		l = append(l, api.Type{Kind: api.Dec, Scale: scale})
	}
	for _, kind := range badKinds {
		l = append(l, api.Type{Kind: kind}, api.Type{Kind: kind, Scale: 1})
	}
	return l
}

// ordered are valid values, each of which comes before the next by Order.
func ordered() []api.Value {
	return []api.Value{
		null,
		value.Bool(false), value.Bool(true),
		integer(least), dec(least, 0),
		integer(least + 1),
		dec(least, 1), dec(least+1, 1), dec(least, 2), dec(least, 5),
		integer(-9_223_372_036_855), dec(least, 6), dec(least+1, 6), integer(-9_223_372_036_854),
		integer(-257), integer(-256),
		integer(-2), dec(-11, 1),
		integer(-1), dec(-1, 0), dec(-10, 1), dec(-100, 2), dec(-1_000_000, 6), dec(-999_999, 6),
		dec(-5, 1), dec(-50, 2), dec(-1, 6),
		integer(0), dec(0, 0), dec(0, 1), dec(0, 2), dec(0, 3), dec(0, 4), dec(0, 5), dec(0, 6),
		dec(1, 6), dec(1, 5), dec(10, 6), dec(9, 1),
		integer(1), dec(1, 0), dec(10, 1), dec(100, 2), dec(1_000_000, 6), dec(1_000_001, 6), dec(11, 1), dec(15, 1), dec(150, 2), dec(151, 2),
		integer(2), integer(9), integer(10), integer(255), integer(256), integer(1 << 32),
		integer(9_223_372_036_854), dec(most-1, 6), dec(most, 6), integer(9_223_372_036_855),
		dec(most, 1), integer(most - 1), dec(most-1, 0), integer(most), dec(most, 0),
		text(""), text("\x00"), text("\x00\x00"), text(" "), text("''"), text("'a"), text("-1"), text("1"), text("10"), text("2"), text("A"), text("B"),
		text("a"), text("a\x00"), text("a'b"), text("aa"), text("ab"), text("b"), text(strings.Repeat("x", 199)), text(strings.Repeat("x", 200)),
		text("\x7f"), text("\u00e9"), text("\uffff"), text("\U0001f600"), text("\U0010ffff"),
		raw(""), raw("\x00"), raw("\x00\x00"), raw("\x00\x01"), raw("\x01"), raw("A"), raw("a"), raw("a\x00"), raw("a'"), raw("aa"), raw("\x7f"), raw("\x80"), raw("\xfe\xff"),
		raw("\xff"), raw("\xff\x00"), raw(strings.Repeat("\xff", 199)), raw(strings.Repeat("\xff", 200)),
	}
}

// wrong are values that are not valid.
func wrong() []api.Value {
	l := []api.Value{
		{N: 1}, {N: -1}, {Scale: 1}, {Scale: -1}, {S: "a"}, {S: "\x00"}, {N: 1, Scale: 2, S: "a"},
		{Kind: api.Bool, N: 2}, {Kind: api.Bool, N: -1}, {Kind: api.Bool, N: 256}, {Kind: api.Bool, N: 257}, {Kind: api.Bool, N: 1 << 32}, {Kind: api.Bool, N: 1<<32 + 1},
		{Kind: api.Bool, N: most}, {Kind: api.Bool, N: least}, {Kind: api.Bool, Scale: 1}, {Kind: api.Bool, N: 1, Scale: 1}, {Kind: api.Bool, S: "a"}, {Kind: api.Bool, N: 1, S: "TRUE"},
		{Kind: api.Int, Scale: 1}, {Kind: api.Int, N: 5, Scale: 1}, {Kind: api.Int, N: 5, Scale: -1}, {Kind: api.Int, S: "5"}, {Kind: api.Int, N: 5, S: "5"},
		{Kind: api.Dec, S: "5"}, {Kind: api.Dec, N: 5, Scale: 1, S: "0.5"}, {Kind: api.Dec, N: 5, Scale: 1, S: "\x00"},
		{Kind: api.Text, N: 1}, {Kind: api.Text, N: 1, S: "a"}, {Kind: api.Text, Scale: 1}, {Kind: api.Text, Scale: 1, S: "a"},
		{Kind: api.Bytes, N: 1}, {Kind: api.Bytes, N: 1, S: "a"}, {Kind: api.Bytes, Scale: 1}, {Kind: api.Bytes, Scale: 1, S: "a"},
		text(strings.Repeat("a", 201)), text(strings.Repeat("a", 100_000)), text(strings.Repeat("\u00e9", 100) + "a"), text(strings.Repeat("'", 201)),
		raw(strings.Repeat("a", 201)), raw(strings.Repeat("\x00", 100_000)),
	}
	for _, s := range []string{
		"\xff", "\x80", "a\x80", "\xc3", "a\xc3", "\xc3a", // a byte of its own, a part of two
		"\xe2\x82", "\xf0\x9f\x98", strings.Repeat("a", 199) + "\xc3", // parts of more
		"\xc0\x80", "\xc1\xbf", "\xe0\x80\x80", // longer than need be
		"\xed\xa0\x80", "\xed\xbf\xbf", // surrogates
		"\xf4\x90\x80\x80", "\xf8\x88\x80\x80\x80", // above 10FFFF
	} {
		l = append(l, text(s))
	}
	for _, scale := range badScales {
		l = append(l, dec(0, scale), dec(5, scale), dec(least, scale))
	}
	for _, kind := range badKinds {
		l = append(l, api.Value{Kind: kind}, api.Value{Kind: kind, N: 1}, api.Value{Kind: kind, N: 1, Scale: 1}, api.Value{Kind: kind, S: "a"})
	}
	return l
}

// P3.1

func TestRightType(t *testing.T) {
	for c := range rightTypes() {
		if !value.RightType(c) {
			t.Errorf("RightType(%#v) is false", c)
		}
	}
	for _, c := range wrongTypes() {
		if value.RightType(c) {
			t.Errorf("RightType(%#v) is true", c)
		}
	}
}

func TestTypeName(t *testing.T) {
	for c, want := range rightTypes() {
		if got := value.TypeName(c); got != want {
			t.Errorf("TypeName(%#v) is %q, want %q", c, got, want)
		}
	}
	for _, c := range wrongTypes() {
		if got := value.TypeName(c); got != "" {
			t.Errorf("TypeName(%#v) is %q", c, got)
		}
	}
}

func TestRight(t *testing.T) {
	for _, v := range append(ordered(), text(strings.Repeat("\u00e9", 100)), text(strings.Repeat("'", 200)), text("\ufffd"), raw(every()[:200]), raw(every()[56:])) {
		if !value.Right(v) {
			t.Errorf("Right(%#v) is false", v)
		}
	}
	for _, v := range wrong() {
		if value.Right(v) {
			t.Errorf("Right(%#v) is true", v)
		}
	}
}

func TestRightOfBytesThatAreNoText(t *testing.T) {
	for c := range 256 {
		s := string([]byte{byte(c)})
		if !value.Right(raw(s)) {
			t.Errorf("Right of the bytes %q is false", s)
		}
		if got := value.Right(text(s)); got != utf8.ValidString(s) {
			t.Errorf("Right of the text %q is %#v", s, got)
		}
	}
}

func TestOf(t *testing.T) {
	for c := range rightTypes() {
		for _, v := range ordered() {
			want := v.Kind == api.Null || v.Kind == c.Kind && (c.Kind != api.Dec || v.Scale == c.Scale)
			if got := value.Of(v, c); got != want {
				t.Errorf("Of(%#v, %#v) is %#v, want %#v", v, c, got, want)
			}
		}
	}
}

func TestOfExamples(t *testing.T) {
	for _, c := range []struct {
		v    api.Value
		t    api.Type
		want bool
	}{
		{null, api.Type{Kind: api.Bool}, true},
		{null, api.Type{Kind: api.Dec, Scale: 6}, true},
		{value.Bool(true), api.Type{Kind: api.Bool}, true},
		{value.Bool(true), api.Type{Kind: api.Int}, false},
		{integer(1), api.Type{Kind: api.Bool}, false},
		{integer(most), api.Type{Kind: api.Int}, true},
		{integer(1), api.Type{Kind: api.Dec}, false}, // though the numbers are equal
		{dec(1, 0), api.Type{Kind: api.Int}, false},
		{dec(1, 0), api.Type{Kind: api.Dec}, true},
		{dec(10, 1), api.Type{Kind: api.Dec}, false},
		{dec(10, 1), api.Type{Kind: api.Dec, Scale: 1}, true},
		{dec(10, 1), api.Type{Kind: api.Dec, Scale: 2}, false},
		{dec(0, 6), api.Type{Kind: api.Dec, Scale: 6}, true},
		{dec(0, 0), api.Type{Kind: api.Dec, Scale: 6}, false},
		{text("a"), api.Type{Kind: api.Text}, true},
		{text("a"), api.Type{Kind: api.Bytes}, false},
		{raw("a"), api.Type{Kind: api.Bytes}, true},
		{raw("a"), api.Type{Kind: api.Text}, false},
	} {
		if got := value.Of(c.v, c.t); got != c.want {
			t.Errorf("Of(%#v, %#v) is %#v", c.v, c.t, got)
		}
	}
}

// A value that is not valid has no type, although it counts as Null elsewhere.
func TestOfWrongValues(t *testing.T) {
	for _, v := range wrong() {
		for c := range rightTypes() {
			if value.Of(v, c) {
				t.Errorf("Of(%#v, %#v) is true", v, c)
			}
		}
	}
}

func TestOfWrongTypes(t *testing.T) {
	for _, c := range wrongTypes() {
		for _, v := range slices.Concat(ordered(), wrong(), []api.Value{{Kind: c.Kind, Scale: c.Scale}}) {
			if value.Of(v, c) {
				t.Errorf("Of(%#v, %#v) is true", v, c)
			}
		}
	}
}

// P3.2

func TestCompareExamples(t *testing.T) {
	for _, c := range []struct {
		a, b api.Value
		want int
	}{
		{value.Bool(false), value.Bool(true), -1},
		{value.Bool(false), value.Bool(false), 0},
		{value.Bool(true), value.Bool(true), 0},
		{integer(1), dec(10, 1), 0}, // the document's
		{integer(1), integer(2), -1},
		{integer(-1), integer(1), -1},
		{integer(least), integer(most), -1},
		{integer(least), integer(least), 0},
		{dec(10, 1), dec(100, 2), 0},
		{dec(0, 0), dec(0, 6), 0},
		{dec(most, 6), integer(most), -1},
		{dec(least, 6), integer(least), 1},
		{dec(11, 1), integer(2), -1}, // the scale matters more than the number
		{dec(-11, 1), integer(-2), 1},
		{dec(1, 6), dec(1, 5), -1},
		{dec(9, 1), integer(1), -1},
		{text(""), text(""), 0},
		{text(""), text("a"), -1},
		{text("a"), text("ab"), -1}, // a proper prefix
		{text("ab"), text("b"), -1},
		{text("B"), text("a"), -1},
		{text("10"), text("9"), -1},
		{text("z"), text("\u00e9"), -1},
		{text("\uffff"), text("\U0001f600"), -1},
		{raw("a"), raw("a\x00"), -1},
		{raw("\x7f"), raw("\x80"), -1}, // bytes are not signed
		{raw("\x00\xff"), raw("\x01"), -1},
		{raw("\xff"), raw("\xff"), 0},
	} {
		if got, ok := value.Compare(c.a, c.b); got != c.want || !ok {
			t.Errorf("Compare(%#v, %#v) is %d, %#v, want %d", c.a, c.b, got, ok, c.want)
		}
		if got, ok := value.Compare(c.b, c.a); got != -c.want || !ok {
			t.Errorf("Compare(%#v, %#v) is %d, %#v, want %d", c.b, c.a, got, ok, -c.want)
		}
	}
}

func isNumber(v api.Value) bool { return v.Kind == api.Int || v.Kind == api.Dec }

func exact(v api.Value) *big.Rat {
	ten := new(big.Int).Exp(big.NewInt(10), big.NewInt(int64(v.Scale)), nil)
	return new(big.Rat).SetFrac(big.NewInt(int64(v.N)), ten)
}

// TestCompareOfAll holds Compare against the order of the list, and of numbers against exact fractions.
func TestCompareOfAll(t *testing.T) {
	l := ordered()
	for i, a := range l {
		for k, b := range l {
			want, wantOK := 0, a.Kind == b.Kind && a.Kind != api.Null || isNumber(a) && isNumber(b)
			if isNumber(a) && isNumber(b) {
				want = exact(a).Cmp(exact(b))
			} else if wantOK {
				want = sign(i - k)
			}
			if got, ok := value.Compare(a, b); got != want || ok != wantOK {
				t.Errorf("Compare(%#v, %#v) is %d, %#v, want %d, %#v", a, b, got, ok, want, wantOK)
			}
		}
	}
}

func TestCompareOfWrongValues(t *testing.T) {
	for _, a := range wrong() {
		for _, b := range slices.Concat(ordered(), []api.Value{a}, wrong()[:20]) {
			if got, ok := value.Compare(a, b); got != 0 || ok {
				t.Errorf("Compare(%#v, %#v) is %d, %#v", a, b, got, ok)
			}
			if got, ok := value.Compare(b, a); got != 0 || ok {
				t.Errorf("Compare(%#v, %#v) is %d, %#v", b, a, got, ok)
			}
		}
	}
}

func sign(n int) int {
	switch {
	case n < 0:
		return -1
	case n > 0:
		return 1
	}
	return 0
}

func TestOrder(t *testing.T) {
	l := ordered()
	for i, a := range l {
		for k, b := range l {
			if got := value.Order(a, b); got != sign(i-k) {
				t.Errorf("Order(%#v, %#v) is %d, want %d", a, b, got, sign(i-k))
			}
		}
	}
}

func TestOrderExample(t *testing.T) {
	if got := value.Order(integer(1), dec(10, 1)); got != -1 {
		t.Errorf("Order of Int 1 and Dec 1.0 is %d", got)
	}
}

// Values that are not valid count as Null: they are equal to it and to each other, and come before all others.
func TestOrderOfWrongValues(t *testing.T) {
	for _, a := range wrong() {
		for _, b := range append(ordered(), wrong()...) {
			want := -1
			if b.Kind == api.Null || !value.Right(b) {
				want = 0
			}
			if got := value.Order(a, b); got != want {
				t.Errorf("Order(%#v, %#v) is %d, want %d", a, b, got, want)
			}
			if got := value.Order(b, a); got != -want {
				t.Errorf("Order(%#v, %#v) is %d, want %d", b, a, got, -want)
			}
		}
	}
}

// P3.3

var texts = []struct {
	s string
	v api.Value
}{
	{"NULL", api.Value{}},
	{"FALSE", api.Value{Kind: api.Bool}},
	{"TRUE", api.Value{Kind: api.Bool, N: 1}},
	{"0", integer(0)},
	{"-7", integer(-7)},
	{"1000000", integer(1_000_000)},
	{"9223372036854775807", integer(most)},
	{"-9223372036854775808", integer(least)},
	{"0.", dec(0, 0)},
	{"7.", dec(7, 0)},
	{"-7.", dec(-7, 0)},
	{"10.", dec(10, 0)},
	{"9223372036854775807.", dec(most, 0)},
	{"-9223372036854775808.", dec(least, 0)},
	{"0.0", dec(0, 1)},
	{"0.7", dec(7, 1)},
	{"1.0", dec(10, 1)},
	{"-0.50", dec(-50, 2)},
	{"-0.05", dec(-5, 2)},
	{"-1.50", dec(-150, 2)},
	{"0.000000", dec(0, 6)},
	{"0.000001", dec(1, 6)},
	{"9223372036854.775807", dec(most, 6)},
	{"-9223372036854.775808", dec(least, 6)},
	{"''", text("")},
	{"''''", text("'")},
	{"''''''", text("''")},
	{"'it''s'", text("it's")},
	{"'a''b'", text("a'b")},
	{"'a''''b'", text("a''b")},
	{"'''a'", text("'a")},
	{"'a'''", text("a'")},
	{"'\"'", text("\"")},
	{"'\\'", text("\\")},
	{"' '", text(" ")},
	{"'\n\t\x00'", text("\n\t\x00")},
	{"'NULL'", text("NULL")},
	{"'1.5'", text("1.5")},
	{"'X''00'''", text("X'00'")},
	{"'\u00e9\u20ac\U0001f600\ufffd'", text("\u00e9\u20ac\U0001f600\ufffd")},
	{"X''", raw("")},
	{"X'00'", raw("\x00")},
	{"X'00FF'", raw("\x00\xff")},
	{"X'27'", raw("'")},
	{"X'0A1B9CF0'", raw("\x0a\x1b\x9c\xf0")},
	{"X'C3'", raw("\xc3")},
}

func TestPrint(t *testing.T) {
	for _, c := range texts {
		if got := value.Print(c.v); got != c.s {
			t.Errorf("Print(%#v) is %q, want %q", c.v, got, c.s)
		}
	}
}

func TestParse(t *testing.T) {
	for _, c := range texts {
		if got, ok := value.Parse(c.s); got != c.v || !ok {
			t.Errorf("Parse(%q) is %#v, %#v, want %#v", c.s, got, ok, c.v)
		}
	}
}

func TestPrintAndParseOfEachByte(t *testing.T) {
	for c := range 256 {
		b := strconv.FormatInt(int64(c)+256, 16)[1:]
		want := "X'" + strings.ToUpper(b) + "'"
		v := raw(string([]byte{byte(c)}))
		if got := value.Print(v); got != want {
			t.Errorf("Print(%#v) is %q, want %q", v, got, want)
		}
		if got, ok := value.Parse(want); got != v || !ok {
			t.Errorf("Parse(%q) is %#v, %#v", want, got, ok)
		}
	}
}

func TestPrintAndParseOfTheLongest(t *testing.T) {
	for _, c := range []struct {
		s string
		v api.Value
	}{
		{"'" + strings.Repeat("a", 200) + "'", text(strings.Repeat("a", 200))},
		{"'" + strings.Repeat("'", 400) + "'", text(strings.Repeat("'", 200))},
		{"'" + strings.Repeat("\u00e9", 100) + "'", text(strings.Repeat("\u00e9", 100))},
		{"X'" + strings.Repeat("FF", 200) + "'", raw(strings.Repeat("\xff", 200))},
	} {
		if got := value.Print(c.v); got != c.s {
			t.Errorf("Print(%#v) is %q", c.v, got)
		}
		if got, ok := value.Parse(c.s); got != c.v || !ok {
			t.Errorf("Parse(%q) is %#v, %#v", c.s, got, ok)
		}
	}
}

func TestParseOfWhatWasPrinted(t *testing.T) {
	printed := map[string]api.Value{}
	for _, v := range append(ordered(), raw(every()[:200]), raw(every()[56:])) {
		s := value.Print(v)
		if got, ok := value.Parse(s); got != v || !ok {
			t.Errorf("Parse(%q) is %#v, %#v, want %#v", s, got, ok, v)
		}
		if other, there := printed[s]; there {
			t.Errorf("%#v and %#v are both printed as %q", v, other, s)
		}
		printed[s] = v
	}
}

func TestPrintOfWrongValues(t *testing.T) {
	for _, v := range wrong() {
		if got := value.Print(v); got != "NULL" {
			t.Errorf("Print(%#v) is %q", v, got)
		}
	}
}

func TestParseAcceptsNothingElse(t *testing.T) {
	for _, s := range []string{
		"", " ", "a", "null", "Null", "NULL ", " NULL", "NULLNULL", "NUL", "'NULL", "nil", // words
		"true", "True", "TRUE ", " TRUE", "false", "FALSE\x00", "T", "YES", "UNKNOWN", "TRUE.", "FALSE.",
		"X", "x", "X'", "'X", "X00", "X''0", "X'0", "X00'", "'00'X", "XX'00'", "x''", "x'00'", " X''", "X ''", "X'' ", // no bytes
		"X'0'", "X'000'", "X'00F'", "X'0''", "X'''", // an odd number of digits
		"X'ff'", "X'0a'", "X'aA'", "X'Aa'", "X'fF'", // lowercase ones
		"X'0G'", "X'G0'", "X'0@'", "X'@0'", "X'0/'", "X'0:'", "X'0`'", "X'  '", "X'0 '", "X' 0'", "X'-1'", "X'+1'", "X'0x'", "X'\xff\xff'", "X'\u00e9'", "X'''''", "X''''", "X'0\x00'",
		"X'00'00'", "X'00''00'", "X'00' ", "X'00'X'00'", "X'00'0", "X\"00\"",
		"'", "'''", "'''''", "'a", "a'", "'a'b'", "'a'b", "'a''", "''a'", "'''a''", "'a''''", "''a", "'a'''b'", "'a' ", " 'a'", "'a'.", "'a''b", "''''a'", "''''''a'", "'''''''", "'a'''''b'", // apostrophes
		"\"a\"", "`a`", "\u2019a\u2019", "N'a'", "'a'\x00", "'a'X''",
		"'\xff'", "'a\x80'", "'\xc3'", "'\xed\xa0\x80'", "'\xc0\x80'", "'\xf4\x90\x80\x80'", // no UTF-8
		"'" + strings.Repeat("a", 201) + "'", "'" + strings.Repeat("''", 201) + "'", "'" + strings.Repeat("\u00e9", 100) + "a'", "'" + strings.Repeat("a", 100_000) + "'", // too long
		"X'" + strings.Repeat("00", 201) + "'", "X'" + strings.Repeat("00", 100_000) + "'", "X'" + strings.Repeat("0", 401) + "'",
		"-", ".", "-.", "+1", "+1.", "01", "00", "-0", "-0.", "-0.0", "-0.000000", "01.", "00.", "-01.", "00.5", // numbers
		".5", "-.5", "1..", "1.5.", "1.50.", "0.0.", "1..5", ".1.", "1.5.5", "1.000000.", "1.0000000", "0.1234567", "1. ", "1 .", " 1", "1 ", "1\n", "1.\n",
		"9223372036854775808", "-9223372036854775809", "9223372036854775808.", "-9223372036854775809.", "922337203685477580.8", "9223372036854.775808", "-9223372036854.775809",
		"18446744073709551616", "18446744073709551616.", strings.Repeat("9", 10_000), strings.Repeat("9", 10_000) + ".",
		"1e2", "1e2.", "0x10", "1_000", "1,5", "--1", "1-", "1'", "'1", "\u0661", "\uff11.", "NaN", "Inf", "1.e2", "1.f",
	} {
		if got, ok := value.Parse(s); got != null || ok {
			t.Errorf("Parse(%q) is %#v, %#v", s, got, ok)
		}
	}
}

// TestParseOfShortStrings tries all strings of few characters against a second description of the texts.
func TestParseOfShortStrings(t *testing.T) {
	const letters = "'X0A1.-a\xc3\xa9"
	l := []string{""}
	for len(l) > 0 && len(l[0]) <= 5 {
		s := l[0]
		l = l[1:]
		for i := range len(letters) {
			l = append(l, s+letters[i:i+1])
		}
		v, ok := value.Parse(s)
		if ok != isPrinted(s) {
			t.Errorf("Parse(%q) is %#v, %#v", s, v, ok)
		}
		if ok && (!value.Right(v) || value.Print(v) != s) || !ok && v != null {
			t.Errorf("Parse(%q) is %#v, %#v", s, v, ok)
		}
	}
}

// isPrinted describes the texts of the values that can be made of the few characters above.
func isPrinted(s string) bool {
	if rest, ok := strings.CutPrefix(s, "X'"); ok {
		digits, closed := strings.CutSuffix(rest, "'")
		return closed && len(digits)%2 == 0 && strings.Trim(digits, "01A") == ""
	}
	if strings.HasPrefix(s, "'") {
		return isPrintedText(s)
	}
	number, negative := strings.CutPrefix(s, "-")
	whole, fraction, _ := strings.Cut(number, ".")
	if whole == "" || len(whole) > 1 && whole[0] == '0' || strings.Trim(whole+fraction, "01") != "" {
		return false
	}
	return !negative || strings.Contains(number, "1")
}

func isPrintedText(s string) bool {
	const closed, inside, paired = 0, 1, 2
	state := closed
	for i := range len(s) {
		switch {
		case state == closed: // the first character is an apostrophe
			state = inside
		case state == inside && s[i] == '\'':
			state = paired
		case state == paired && s[i] == '\'':
			state = inside
		case state == paired:
			return false
		}
	}
	return state == paired && utf8.ValidString(s)
}

// P3.4

var unknowns = []api.Truth{api.Unknown, 3, -1, 4, 255, 256, 257, 1 << 32, 1<<32 + 1, least, most}

func TestNot(t *testing.T) {
	if got := value.Not(api.No); got != api.Yes {
		t.Errorf("Not(No) is %d", got)
	}
	if got := value.Not(api.Yes); got != api.No {
		t.Errorf("Not(Yes) is %d", got)
	}
	for _, u := range unknowns {
		if got := value.Not(u); got != api.Unknown {
			t.Errorf("Not(%d) is %d", u, got)
		}
	}
}

func TestAndAndOr(t *testing.T) {
	for _, c := range []struct{ a, b, and, or api.Truth }{
		{api.No, api.No, api.No, api.No},
		{api.No, api.Yes, api.No, api.Yes},
		{api.Yes, api.No, api.No, api.Yes},
		{api.Yes, api.Yes, api.Yes, api.Yes},
	} {
		testAndAndOr(t, c.a, c.b, c.and, c.or)
	}
	for _, u := range unknowns {
		testAndAndOr(t, u, api.No, api.No, api.Unknown)
		testAndAndOr(t, api.No, u, api.No, api.Unknown)
		testAndAndOr(t, u, api.Yes, api.Unknown, api.Yes)
		testAndAndOr(t, api.Yes, u, api.Unknown, api.Yes)
		for _, other := range unknowns {
			testAndAndOr(t, u, other, api.Unknown, api.Unknown)
		}
	}
}

func testAndAndOr(t *testing.T, a, b, and, or api.Truth) {
	t.Helper()
	if got := value.And(a, b); got != and {
		t.Errorf("And(%d, %d) is %d, want %d", a, b, got, and)
	}
	if got := value.Or(a, b); got != or {
		t.Errorf("Or(%d, %d) is %d, want %d", a, b, got, or)
	}
}

func TestBool(t *testing.T) {
	if got := value.Bool(false); got != (api.Value{Kind: api.Bool}) {
		t.Errorf("Bool(false) is %#v", got)
	}
	if got := value.Bool(true); got != (api.Value{Kind: api.Bool, N: 1}) {
		t.Errorf("Bool(true) is %#v", got)
	}
}

func TestTruth(t *testing.T) {
	if got := value.Truth(api.Value{Kind: api.Bool}); got != api.No {
		t.Errorf("Truth of FALSE is %d", got)
	}
	if got := value.Truth(api.Value{Kind: api.Bool, N: 1}); got != api.Yes {
		t.Errorf("Truth of TRUE is %d", got)
	}
	for _, v := range append(ordered(), wrong()...) {
		if value.Right(v) && v.Kind == api.Bool {
			continue
		}
		if got := value.Truth(v); got != api.Unknown {
			t.Errorf("Truth(%#v) is %d", v, got)
		}
	}
}
