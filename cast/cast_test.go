package cast_test

import (
	"math"
	"math/big"
	"slices"
	"strconv"
	"strings"
	"testing"
	"unicode/utf8"

	"refit/api"
	"refit/cast"
	"refit/value"
)

const (
	least = math.MinInt
	most  = math.MaxInt
)

var (
	null      = api.Value{}
	badScales = []int{-1, 7, 8, 256, -256, 1 << 32, 1<<32 + 1, least, most}
	badKinds  = []api.Kind{-1, 6, 7, 255, 256, 258, -254, 1 << 32, 1<<32 + 2, least, most}
)

var (
	boolType  = api.Type{Kind: api.Bool}
	intType   = api.Type{Kind: api.Int}
	textType  = api.Type{Kind: api.Text}
	bytesType = api.Type{Kind: api.Bytes}
)

func decType(scale int) api.Type { return api.Type{Kind: api.Dec, Scale: scale} }

func integer(n int) api.Value { return api.Value{Kind: api.Int, N: n} }

func dec(n, scale int) api.Value { return api.Value{Kind: api.Dec, N: n, Scale: scale} }

func text(s string) api.Value { return api.Value{Kind: api.Text, S: s} }

func raw(s string) api.Value { return api.Value{Kind: api.Bytes, S: s} }

func rightTypes() []api.Type {
	return []api.Type{boolType, intType, decType(0), decType(1), decType(2), decType(3), decType(4), decType(5), decType(6), textType, bytesType}
}

func wrongTypes() []api.Type {
	l := []api.Type{{}}
	for _, scale := range append([]int{1, 2, 6}, badScales...) {
		for _, kind := range []api.Kind{api.Null, api.Bool, api.Int, api.Text, api.Bytes} {
			l = append(l, api.Type{Kind: kind, Scale: scale})
		}
	}
	for _, scale := range badScales {
		l = append(l, decType(scale))
	}
	for _, kind := range badKinds {
		l = append(l, api.Type{Kind: kind}, api.Type{Kind: kind, Scale: 1})
	}
	return l
}

// numbers are those at which signs, ties or ends of the range change.
func numbers() []int {
	l := []int{0, 1, 2, 4, 5, 6, 9, 10, 14, 15, 25, 45, 49, 50, 51, 99, 100, 125, 149, 150, 499_999, 500_000, 500_001, 999_999, 1_000_000, 1_500_000,
		1<<32 - 1, 1 << 32, 1 << 58, 1 << 62, 9_223_372_036_854, 9_223_372_036_855, most/10 - 1, most / 10, most/10 + 1, most - 5, most - 1, most}
	for _, n := range l {
		l = append(l, -n)
	}
	return append(l, least, least+1, least+5)
}

// badDecimals are texts that layer 2's Parse rejects.
func badDecimals() []string {
	return []string{
		"", "-", ".", "-.", "x", "1x", "x1", "one", "NULL", "TRUE", "true", "false",
		"+1", "--1", "1-", "- 1", "00", "01", "-01", "007", "00.5", "-0", "-0.0", "-0.000000",
		".5", "-.5", "1.", "-1.", "0.", "1..5", "1.2.3", "1.5.", "1.0000000", "0.1234567",
		" 1", "1 ", "\t1", "1\n", "1\x00", "1e2", "1E2", "0x10", "1_000", "1,5", "1'000", "'1'", "1/", "1:", "\u0661", "\uff11", "\u22121", "NaN", "Inf",
		"9223372036854775808", "-9223372036854775809", "9223372036854775807.0", "922337203685477580.8", "9223372036854.775808", "-9223372036854.775809",
		"18446744073709551616", "18446744073709551617", strings.Repeat("9", 200),
	}
}

func texts() []string {
	return append(badDecimals(),
		"0", "0.0", "1", "-1", "1.5", "-0.5", "-1.50", "0.000001", "9223372036854775807", "-9223372036854775808", "9223372036854.775807",
		"TRUE", "FALSE", "True", "yes", "t", "a", "it's", "\x00", "\u00e9\u20ac\U0001f600\ufffd", strings.Repeat("a", 200), strings.Repeat("\u00e9", 100))
}

// notUTF8 are bytes that are no text.
func notUTF8() []string {
	return []string{
		"\xff", "\xfe\xff", "\x80", "a\x80", "\x80a", "\xc3", "a\xc3", "\xc3a", // a byte of its own, a part of two
		"\xe2\x82", "\xf0\x9f\x98", strings.Repeat("a", 199) + "\xc3", // parts of more
		"\xc0\x80", "\xc1\xbf", "\xe0\x80\x80", "\xf0\x80\x80\x80", // longer than need be
		"\xed\xa0\x80", "\xed\xbf\xbf", // surrogates
		"\xf4\x90\x80\x80", "\xf8\x88\x80\x80\x80", // above 10FFFF
		strings.Repeat("\xff", 200),
	}
}

// rightValues are valid values of all Kinds but Null.
func rightValues() []api.Value {
	l := []api.Value{value.Bool(false), value.Bool(true)}
	for _, n := range numbers() {
		l = append(l, integer(n))
		for scale := range api.MaxScale + 1 {
			l = append(l, dec(n, scale))
		}
	}
	for _, s := range texts() {
		l = append(l, text(s), raw(s))
	}
	for _, s := range notUTF8() {
		l = append(l, raw(s))
	}
	return l
}

// wrongValues are values that are not valid, among them such as would be cast if only some of their fields were read.
func wrongValues() []api.Value {
	l := []api.Value{
		{N: 1}, {N: -1}, {Scale: 1}, {Scale: -1}, {S: "a"}, {S: "1"}, {N: 1, Scale: 2, S: "a"},
		{Kind: api.Bool, N: 2}, {Kind: api.Bool, N: -1}, {Kind: api.Bool, N: 256}, {Kind: api.Bool, N: 1<<32 + 1}, {Kind: api.Bool, N: most}, {Kind: api.Bool, N: least},
		{Kind: api.Bool, Scale: 1}, {Kind: api.Bool, N: 1, Scale: 1}, {Kind: api.Bool, S: "a"}, {Kind: api.Bool, N: 1, S: "true"},
		{Kind: api.Int, Scale: 1}, {Kind: api.Int, N: 1, Scale: 1}, {Kind: api.Int, N: 5, Scale: -1}, {Kind: api.Int, S: "5"}, {Kind: api.Int, N: 1, S: "1"}, {Kind: api.Int, N: most, Scale: 6},
		{Kind: api.Dec, S: "5"}, {Kind: api.Dec, N: 5, Scale: 1, S: "0.5"}, {Kind: api.Dec, N: 5, Scale: 1, S: "\x00"},
		{Kind: api.Text, N: 1, S: "1"}, {Kind: api.Text, N: 1}, {Kind: api.Text, Scale: 1}, {Kind: api.Text, Scale: 1, S: "true"},
		{Kind: api.Bytes, N: 1, S: "a"}, {Kind: api.Bytes, N: 1}, {Kind: api.Bytes, Scale: 1}, {Kind: api.Bytes, Scale: 1, S: "a"},
		text(strings.Repeat("1", 201)), text(strings.Repeat("a", 100_000)), text(strings.Repeat("\u00e9", 100) + "a"),
		raw(strings.Repeat("a", 201)), raw(strings.Repeat("\x00", 100_000)),
	}
	for _, s := range notUTF8() {
		l = append(l, text(s))
	}
	for _, scale := range badScales {
		l = append(l, dec(0, scale), dec(5, scale), dec(least, scale))
	}
	for _, kind := range badKinds {
		l = append(l, api.Value{Kind: kind}, api.Value{Kind: kind, N: 1}, api.Value{Kind: kind, N: 1, Scale: 1}, api.Value{Kind: kind, S: "a"})
	}
	return l
}

func testCast(t *testing.T, v api.Value, to api.Type, want api.Value, wantErr api.Errno) {
	t.Helper()
	if got, err := cast.Cast(v, to); got != want || err != wantErr {
		t.Errorf("Cast(%#v, %#v) is %#v, %v, want %#v, %v", v, to, got, err, want, wantErr)
	}
}

// P4.1

func TestCastExamples(t *testing.T) {
	testCast(t, text("1.25"), decType(1), dec(13, 1), api.OK)
	testCast(t, dec(25, 1), intType, integer(3), api.OK)
	testCast(t, text("x"), boolType, null, api.ErrCast)
}

// TestCastTable has the cells of the document's table in their order.
func TestCastTable(t *testing.T) {
	for _, c := range []struct {
		v    api.Value
		to   api.Type
		want api.Value
		err  api.Errno
	}{
		{value.Bool(false), boolType, value.Bool(false), api.OK},
		{value.Bool(true), boolType, value.Bool(true), api.OK},
		{value.Bool(false), intType, integer(0), api.OK},
		{value.Bool(true), intType, integer(1), api.OK},
		{value.Bool(false), decType(0), null, api.ErrCast},
		{value.Bool(true), decType(0), null, api.ErrCast},
		{value.Bool(true), decType(6), null, api.ErrCast},
		{value.Bool(false), textType, text("false"), api.OK},
		{value.Bool(true), textType, text("true"), api.OK},
		{value.Bool(false), bytesType, null, api.ErrCast},
		{value.Bool(true), bytesType, null, api.ErrCast},

		{integer(0), boolType, value.Bool(false), api.OK},
		{integer(1), boolType, value.Bool(true), api.OK},
		{integer(2), boolType, null, api.ErrCast},
		{integer(-1), boolType, null, api.ErrCast},
		{integer(256), boolType, null, api.ErrCast},
		{integer(257), boolType, null, api.ErrCast},
		{integer(1 << 32), boolType, null, api.ErrCast},
		{integer(most), boolType, null, api.ErrCast},
		{integer(least), boolType, null, api.ErrCast},
		{integer(7), intType, integer(7), api.OK},
		{integer(most), intType, integer(most), api.OK},
		{integer(least), intType, integer(least), api.OK},
		{integer(7), decType(0), dec(7, 0), api.OK},
		{integer(-7), decType(2), dec(-700, 2), api.OK},
		{integer(most), decType(0), dec(most, 0), api.OK},
		{integer(least), decType(0), dec(least, 0), api.OK},
		{integer(922_337_203_685_477_580), decType(1), dec(most-7, 1), api.OK},
		{integer(922_337_203_685_477_581), decType(1), null, api.ErrOver},
		{integer(-922_337_203_685_477_580), decType(1), dec(least+8, 1), api.OK},
		{integer(-922_337_203_685_477_581), decType(1), null, api.ErrOver},
		{integer(9_223_372_036_854), decType(6), dec(9_223_372_036_854_000_000, 6), api.OK},
		{integer(9_223_372_036_855), decType(6), null, api.ErrOver},
		{integer(most), decType(6), null, api.ErrOver},
		{integer(least), decType(6), null, api.ErrOver},
		{integer(0), textType, text("0"), api.OK},
		{integer(-7), textType, text("-7"), api.OK},
		{integer(1_000), textType, text("1000"), api.OK},
		{integer(most), textType, text("9223372036854775807"), api.OK},
		{integer(least), textType, text("-9223372036854775808"), api.OK},
		{integer(0), bytesType, null, api.ErrCast},
		{integer(65), bytesType, null, api.ErrCast},

		{dec(0, 0), boolType, null, api.ErrCast},
		{dec(1, 0), boolType, null, api.ErrCast},
		{dec(10, 1), boolType, null, api.ErrCast},
		{dec(7, 0), intType, integer(7), api.OK},
		{dec(-25, 1), intType, integer(-3), api.OK},
		{dec(24, 1), intType, integer(2), api.OK},
		{dec(-24, 1), intType, integer(-2), api.OK},
		{dec(45, 2), intType, integer(0), api.OK}, // rounded once, not digit by digit
		{dec(499_999, 6), intType, integer(0), api.OK},
		{dec(500_000, 6), intType, integer(1), api.OK},
		{dec(-500_000, 6), intType, integer(-1), api.OK},
		{dec(most, 0), intType, integer(most), api.OK},
		{dec(least, 0), intType, integer(least), api.OK},
		{dec(most, 6), intType, integer(9_223_372_036_855), api.OK},
		{dec(least, 6), intType, integer(-9_223_372_036_855), api.OK},
		{dec(125, 2), decType(2), dec(125, 2), api.OK},
		{dec(125, 2), decType(1), dec(13, 1), api.OK},
		{dec(-125, 2), decType(1), dec(-13, 1), api.OK},
		{dec(125, 2), decType(0), dec(1, 0), api.OK},
		{dec(125, 2), decType(6), dec(1_250_000, 6), api.OK},
		{dec(most, 6), decType(6), dec(most, 6), api.OK},
		{dec(least, 6), decType(6), dec(least, 6), api.OK},
		{dec(most, 5), decType(6), null, api.ErrOver},
		{dec(least, 0), decType(1), null, api.ErrOver},
		{dec(1<<58, 0), decType(6), null, api.ErrOver}, // 64 bits of the product alone would be 0
		{dec(5, 1), textType, text("0.5"), api.OK},
		{dec(-5, 2), textType, text("-0.05"), api.OK},
		{dec(-150, 2), textType, text("-1.50"), api.OK},
		{dec(0, 6), textType, text("0.000000"), api.OK},
		{dec(7, 0), textType, text("7"), api.OK}, // without the point that layer 3 prints
		{dec(most, 6), textType, text("9223372036854.775807"), api.OK},
		{dec(least, 6), textType, text("-9223372036854.775808"), api.OK},
		{dec(least, 0), textType, text("-9223372036854775808"), api.OK},
		{dec(5, 1), bytesType, null, api.ErrCast},
		{dec(0, 0), bytesType, null, api.ErrCast},

		{text("true"), boolType, value.Bool(true), api.OK},
		{text("false"), boolType, value.Bool(false), api.OK},
		{text("7"), intType, integer(7), api.OK},
		{text("-0.5"), intType, integer(-1), api.OK},
		{text("0.5"), intType, integer(1), api.OK},
		{text("0.499999"), intType, integer(0), api.OK},
		{text("-1.4"), intType, integer(-1), api.OK},
		{text("9223372036854775807"), intType, integer(most), api.OK},
		{text("-9223372036854775808"), intType, integer(least), api.OK},
		{text("9223372036854.775807"), intType, integer(9_223_372_036_855), api.OK},
		{text("7"), decType(0), dec(7, 0), api.OK},
		{text("7"), decType(2), dec(700, 2), api.OK},
		{text("-1.25"), decType(1), dec(-13, 1), api.OK},
		{text("1.25"), decType(2), dec(125, 2), api.OK},
		{text("1.25"), decType(6), dec(1_250_000, 6), api.OK},
		{text("2.5"), decType(0), dec(3, 0), api.OK},
		{text("-0.000001"), decType(5), dec(0, 5), api.OK},
		{text("-9223372036854.775808"), decType(6), dec(least, 6), api.OK},
		{text("9223372036854775807"), decType(0), dec(most, 0), api.OK},
		{text("9223372036854775807"), decType(1), null, api.ErrOver},
		{text("-9223372036855"), decType(6), null, api.ErrOver},
		{text("9223372036854775808"), decType(0), null, api.ErrCast}, // no decimal of layer 2
		{text("it's"), textType, text("it's"), api.OK},
		{text(""), textType, text(""), api.OK},
		{text("a"), bytesType, raw("a"), api.OK},
		{text(""), bytesType, raw(""), api.OK},
		{text("\u00e9\x00'"), bytesType, raw("\xc3\xa9\x00'"), api.OK},
		{text(strings.Repeat("\u00e9", 100)), bytesType, raw(strings.Repeat("\xc3\xa9", 100)), api.OK},

		{raw(""), boolType, null, api.ErrCast},
		{raw("true"), boolType, null, api.ErrCast},
		{raw("false"), boolType, null, api.ErrCast},
		{raw("\x01"), boolType, null, api.ErrCast},
		{raw("1"), intType, null, api.ErrCast},
		{raw("1"), decType(0), null, api.ErrCast},
		{raw("1.5"), decType(1), null, api.ErrCast},
		{raw("a"), textType, text("a"), api.OK},
		{raw(""), textType, text(""), api.OK},
		{raw("\xc3\xa9\x00'"), textType, text("\u00e9\x00'"), api.OK},
		{raw(strings.Repeat("\xc3\xa9", 100)), textType, text(strings.Repeat("\u00e9", 100)), api.OK},
		{raw("\xff"), textType, null, api.ErrCast},
		{raw("\x00\xff"), bytesType, raw("\x00\xff"), api.OK},
		{raw(""), bytesType, raw(""), api.OK},
	} {
		testCast(t, c.v, c.to, c.want, c.err)
	}
}

func TestCastToBoolOfOtherTexts(t *testing.T) {
	for _, s := range []string{
		"", "x", "TRUE", "FALSE", "True", "False", "tRUE", "t", "f", "yes", "no", "on", "off", "0", "1", "1.", "1.0",
		" true", "true ", "true\n", "true\x00", "tru", "truee", "fals", "falsey", "truefalse", "'true'", "NULL", "null", "unknown", "tru\u0435", strings.Repeat("true", 50),
	} {
		testCast(t, text(s), boolType, null, api.ErrCast)
	}
}

func TestCastToNumberOfTextsThatAreNone(t *testing.T) {
	for _, s := range badDecimals() {
		testCast(t, text(s), intType, null, api.ErrCast)
		for scale := range api.MaxScale + 1 {
			testCast(t, text(s), decType(scale), null, api.ErrCast)
		}
	}
}

func TestCastToTextOfBytes(t *testing.T) {
	for _, s := range notUTF8() {
		testCast(t, raw(s), textType, null, api.ErrCast)
		testCast(t, raw(s), bytesType, raw(s), api.OK)
	}
	for _, s := range texts() {
		testCast(t, raw(s), textType, text(s), api.OK)
		testCast(t, text(s), bytesType, raw(s), api.OK)
	}
}

func TestCastToTextOfEachByte(t *testing.T) {
	for c := range 256 {
		s := string([]byte{byte(c)})
		want, err := text(s), api.OK
		if c >= utf8.RuneSelf {
			want, err = null, api.ErrCast
		}
		testCast(t, raw(s), textType, want, err)
	}
}

// TestCastThatIsNone tries all values in the cells that have ErrCast alone.
func TestCastThatIsNone(t *testing.T) {
	never := map[api.Kind][]api.Kind{
		api.Bool:  {api.Dec, api.Bytes},
		api.Int:   {api.Bytes},
		api.Dec:   {api.Bool, api.Bytes},
		api.Bytes: {api.Bool, api.Int, api.Dec},
	}
	for _, v := range rightValues() {
		for _, to := range rightTypes() {
			if slices.Contains(never[v.Kind], to.Kind) {
				testCast(t, v, to, null, api.ErrCast)
			}
		}
	}
}

func TestCastToItsOwnType(t *testing.T) {
	for _, v := range rightValues() {
		testCast(t, v, api.Type{Kind: v.Kind, Scale: v.Scale}, v, api.OK)
	}
}

func TestCastHasTheType(t *testing.T) {
	for _, v := range rightValues() {
		for _, to := range rightTypes() {
			got, err := cast.Cast(v, to)
			if err == api.OK && (got.Kind != to.Kind || !value.Of(got, to)) || err != api.OK && got != null {
				t.Errorf("Cast(%#v, %#v) is %#v, %v", v, to, got, err)
			}
		}
	}
}

func exact(n, scale int) *big.Rat {
	return new(big.Rat).SetFrac(big.NewInt(int64(n)), ten(scale))
}

func ten(exponent int) *big.Int {
	return new(big.Int).Exp(big.NewInt(10), big.NewInt(int64(exponent)), nil)
}

// rounded is an independent reckoning of x at the scale of a type, ties away from zero.
func rounded(x *big.Rat, to api.Type) (api.Value, api.Errno) {
	x = new(big.Rat).Mul(x, new(big.Rat).SetInt(ten(to.Scale)))
	twice := new(big.Int).Mul(new(big.Int).Abs(x.Num()), big.NewInt(2))
	twice.Add(twice, x.Denom())
	twice.Quo(twice, new(big.Int).Mul(x.Denom(), big.NewInt(2)))
	if x.Sign() < 0 {
		twice.Neg(twice)
	}
	if !twice.IsInt64() {
		return null, api.ErrOver
	}
	return api.Value{Kind: to.Kind, N: int(twice.Int64()), Scale: to.Scale}, api.OK
}

// TestCastOfNumbers holds numbers, and the texts of numbers, against exact fractions.
func TestCastOfNumbers(t *testing.T) {
	for _, n := range numbers() {
		testCast(t, integer(n), textType, text(strconv.Itoa(n)), api.OK)
		for scale := range api.MaxScale + 1 {
			x := exact(n, scale)
			digits := x.FloatString(scale)
			testCast(t, dec(n, scale), textType, text(digits), api.OK)
			for _, to := range rightTypes() {
				if to.Kind != api.Int && to.Kind != api.Dec {
					continue
				}
				want, err := rounded(x, to)
				testCast(t, dec(n, scale), to, want, err)
				testCast(t, text(digits), to, want, err)
				if scale == 0 {
					testCast(t, integer(n), to, want, err)
				}
			}
		}
	}
}

func TestCastOfNull(t *testing.T) {
	for _, to := range rightTypes() {
		testCast(t, null, to, null, api.OK)
	}
}

func TestCastOfWrongValues(t *testing.T) {
	for _, v := range wrongValues() {
		for _, to := range rightTypes() {
			testCast(t, v, to, null, api.OK)
		}
	}
}

func TestCastToWrongTypes(t *testing.T) {
	for _, v := range slices.Concat([]api.Value{null, value.Bool(true), integer(1), dec(15, 1), text("1"), text("true"), raw("a"), raw("\xff")}, wrongValues()) {
		for _, to := range wrongTypes() {
			testCast(t, v, to, null, api.ErrArg)
		}
	}
}

// P4.2

// safeTypes are the types to which all values of a type can be cast, as the document lists them.
func safeTypes(from api.Type) []api.Type {
	l := []api.Type{from}
	switch from.Kind {
	case api.Bool:
		l = append(l, intType, textType)
	case api.Int:
		l = append(l, textType, decType(0))
	case api.Dec:
		l = append(l, textType, intType)
		for scale := range from.Scale {
			l = append(l, decType(scale))
		}
	case api.Text:
		l = append(l, bytesType)
	}
	return l
}

func TestSafe(t *testing.T) {
	for _, from := range rightTypes() {
		for _, to := range rightTypes() {
			want := slices.Contains(safeTypes(from), to)
			if got := cast.Safe(from, to); got != want {
				t.Errorf("Safe(%#v, %#v) is %v", from, to, got)
			}
		}
	}
}

func TestSafeOfScales(t *testing.T) {
	for _, c := range []struct {
		from, to api.Type
		want     bool
	}{
		{decType(0), decType(0), true},
		{decType(6), decType(6), true},
		{decType(6), decType(0), true},
		{decType(0), decType(6), false},
		{decType(3), decType(2), true},
		{decType(2), decType(3), false},
		{intType, decType(0), true},
		{intType, decType(1), false},
		{intType, decType(6), false},
		{decType(0), intType, true},
		{decType(6), intType, true},
	} {
		if got := cast.Safe(c.from, c.to); got != c.want {
			t.Errorf("Safe(%#v, %#v) is %v", c.from, c.to, got)
		}
	}
}

// TestSafeAndCast finds a value whose cast fails exactly for the types that are not safe.
func TestSafeAndCast(t *testing.T) {
	for _, from := range rightTypes() {
		for _, to := range rightTypes() {
			fails := func(v api.Value) bool {
				_, err := cast.Cast(v, to)
				return value.Of(v, from) && err != api.OK
			}
			if got := cast.Safe(from, to); got == slices.ContainsFunc(rightValues(), fails) {
				t.Errorf("Safe(%#v, %#v) is %v", from, to, got)
			}
		}
	}
}

func TestSafeOfWrongTypes(t *testing.T) {
	for _, a := range wrongTypes() {
		for _, b := range slices.Concat(rightTypes(), wrongTypes()) {
			if cast.Safe(a, b) || cast.Safe(b, a) {
				t.Errorf("Safe of %#v and %#v is true", a, b)
			}
		}
	}
}

// P4.3

func TestFits(t *testing.T) {
	for _, c := range []struct{ a, b, want api.Type }{
		{boolType, boolType, boolType},
		{intType, intType, intType},
		{textType, textType, textType},
		{bytesType, bytesType, bytesType},
		{decType(0), decType(0), decType(0)},
		{decType(6), decType(6), decType(6)},
		{intType, decType(0), decType(0)},
		{intType, decType(3), decType(3)},
		{intType, decType(6), decType(6)},
		{decType(0), decType(6), decType(6)},
		{decType(1), decType(2), decType(2)},
	} {
		for _, types := range [][2]api.Type{{c.a, c.b}, {c.b, c.a}} {
			if got, ok := cast.Fits(types[0], types[1]); got != c.want || !ok {
				t.Errorf("Fits(%#v, %#v) is %#v, %v, want %#v", types[0], types[1], got, ok, c.want)
			}
		}
	}
}

func TestFitsOfAll(t *testing.T) {
	isNumber := func(a api.Type) bool { return a.Kind == api.Int || a.Kind == api.Dec }
	for _, a := range rightTypes() {
		for _, b := range rightTypes() {
			want, wantOK := api.Type{}, false
			if a == b {
				want, wantOK = a, true
			} else if isNumber(a) && isNumber(b) {
				want, wantOK = decType(max(a.Scale, b.Scale)), true
			}
			if got, ok := cast.Fits(a, b); got != want || ok != wantOK {
				t.Errorf("Fits(%#v, %#v) is %#v, %v, want %#v, %v", a, b, got, ok, want, wantOK)
			}
		}
	}
}

func TestFitsOfWrongTypes(t *testing.T) {
	for _, a := range wrongTypes() {
		for _, b := range slices.Concat(rightTypes(), wrongTypes()) {
			for _, types := range [][2]api.Type{{a, b}, {b, a}} {
				if got, ok := cast.Fits(types[0], types[1]); got != (api.Type{}) || ok {
					t.Errorf("Fits(%#v, %#v) is %#v, %v", types[0], types[1], got, ok)
				}
			}
		}
	}
}
