package decimal_test

import (
	"math"
	"math/big"
	"strings"
	"testing"

	"refit/api"
	"refit/decimal"
)

const (
	least = math.MinInt
	most  = math.MaxInt
)

var badScales = []int{-1, -2, 7, 8, 256, -256, 1 << 32, 1<<32 + 1, least, most}

// edges are numbers at which carries, signs, ties or ends of the range change.
func edges() []int {
	l := []int{0, 1, 2, 3, 4, 5, 6, 7, 9, 10, 14, 15, 16, 25, 49, 50, 51, 99, 100, 150, 333, 499_999, 500_000, 500_001, 999_999, 1_000_000,
		1<<31 - 1, 1 << 31, 1<<32 - 1, 1 << 32, 1<<32 + 1, 3_037_000_499, 3_037_000_500, 1<<62 - 1, 1 << 62, most / 10, most/10 + 1, most / 1_000_000, most/1_000_000 + 1, most - 5, most - 1, most}
	for _, n := range l {
		l = append(l, -n)
	}
	return append(l, least, least+1, least+5, least/2, least/10, least/1_000_000)
}

func ten(exponent int) *big.Int {
	return new(big.Int).Exp(big.NewInt(10), big.NewInt(int64(exponent)), nil)
}

func exact(n, scale int) *big.Rat {
	return new(big.Rat).SetFrac(big.NewInt(int64(n)), ten(scale))
}

// rounded is an independent reckoning of what the document says: x at a scale, ties away from zero, and whether it is in range.
func rounded(x *big.Rat, scale int) (int, api.Errno) {
	x = new(big.Rat).Mul(x, new(big.Rat).SetInt(ten(scale)))
	twice := new(big.Int).Mul(new(big.Int).Abs(x.Num()), big.NewInt(2))
	twice.Add(twice, x.Denom())
	twice.Quo(twice, new(big.Int).Mul(x.Denom(), big.NewInt(2)))
	if x.Sign() < 0 {
		twice.Neg(twice)
	}
	return inRange(twice)
}

func inRange(n *big.Int) (int, api.Errno) {
	if !n.IsInt64() {
		return 0, api.ErrOver
	}
	return int(n.Int64()), api.OK
}

// P2.1

func TestRight(t *testing.T) {
	for scale := 0; scale <= api.MaxScale; scale++ {
		if !decimal.Right(scale) {
			t.Errorf("Right(%d) is false", scale)
		}
	}
	for _, scale := range badScales {
		if decimal.Right(scale) {
			t.Errorf("Right(%d) is true", scale)
		}
	}
}

var strs = []struct {
	s        string
	n, scale int
}{
	{"0", 0, 0},
	{"0.0", 0, 1},
	{"0.000000", 0, 6},
	{"1", 1, 0},
	{"-1", -1, 0},
	{"9", 9, 0},
	{"10", 10, 0},
	{"-10", -10, 0},
	{"123", 123, 0},
	{"1.0", 10, 1},
	{"0.1", 1, 1},
	{"-0.1", -1, 1},
	{"0.05", 5, 2},
	{"-0.05", -5, 2},
	{"-0.10", -10, 2},
	{"-1.50", -150, 2},
	{"12.300", 12300, 3},
	{"10.01", 1001, 2},
	{"100", 100, 0},
	{"0.000001", 1, 6},
	{"-0.000001", -1, 6},
	{"1.000001", 1000001, 6},
	{"-12.345678", -12345678, 6},
	{"9223372036854775807", most, 0},
	{"-9223372036854775808", least, 0},
	{"922337203685477580.7", most, 1},
	{"-922337203685477580.8", least, 1},
	{"92233720368547758.07", most, 2},
	{"9223372036854775.807", most, 3},
	{"922337203685477.5807", most, 4},
	{"92233720368547.75807", most, 5},
	{"9223372036854.775807", most, 6},
	{"-9223372036854.775808", least, 6},
	{"9223372036854775806", most - 1, 0},
	{"-9223372036854775807", least + 1, 0},
}

func TestParse(t *testing.T) {
	for _, c := range strs {
		if n, scale, ok := decimal.Parse(c.s); n != c.n || scale != c.scale || !ok {
			t.Errorf("Parse(%q) is %d, %d, %v, want %d, %d", c.s, n, scale, ok, c.n, c.scale)
		}
	}
}

func TestPrint(t *testing.T) {
	for _, c := range strs {
		if s := decimal.Print(c.n, c.scale); s != c.s {
			t.Errorf("Print(%d, %d) is %q, want %q", c.n, c.scale, s, c.s)
		}
	}
}

func TestPrintWithBadScale(t *testing.T) {
	for _, scale := range badScales {
		for _, n := range []int{0, 1, -150, least, most} {
			if s := decimal.Print(n, scale); s != "" {
				t.Errorf("Print(%d, %d) is %q", n, scale, s)
			}
		}
	}
}

func TestParseAcceptsNothingElse(t *testing.T) {
	for _, s := range []string{
		"", "-", ".", "-.", "--", // no digits
		"00", "01", "007", "-01", "00.5", "-00.5", "01.5", "0000000000000000000", // a leading zero
		".1", "-.1", ".", ".000000", // no digits before the point
		"1.", "-1.", "0.", "9223372036854775807.", // none behind it
		"1.0000000", "0.1234567", "0.0000000", "1.00000000000000000000", // too many digits behind the point
		"-0", "-0.0", "-0.00", "-0.000000", // a - before 0
		"9223372036854775808", "-9223372036854775809", "92233720368547758070", // out of range
		"9223372036854.775808", "-9223372036854.775809", "9223372036854775807.0", "-9223372036854775808.0",
		"922337203685477580.8", "-922337203685477580.9",
		"18446744073709551615", "18446744073709551616", "18446744073709551617", "-18446744073709551616",
		"100000000000000000000", "340282366920938463463374607431768211456", strings.Repeat("9", 10000),
		" 1", "1 ", "1 2", "- 1", "\t1", "1\n", "1\x00", "\x001", // other characters
		"+1", "-+1", "+0", "--1", "1-", "1-1", "1.-5", "1.+5", "-1.-5", "1.5-",
		"1..5", "1.5.", "1.5.5", "..", "1.2.3", ".1.2",
		"1e5", "1E5", "1.5e1", "0x10", "0b1", "0o7", "1_000", "1_0.0_1", "1,5", "1'000", "1f", "abc", "a", "inf", "NaN", "-inf",
		"1/", "1:", "/", ":", "/1", ":1", "1./", "1.:", // the neighbours of digits
		"\u0661", "1\u0662", "1.\u0663", "\uff11", "1\xb2", "\xff", "\u22121", "1.5\u00a0", // digits of other scripts, and bytes of none
	} {
		if n, scale, ok := decimal.Parse(s); n != 0 || scale != 0 || ok {
			t.Errorf("Parse(%q) is %d, %d, %v", s, n, scale, ok)
		}
	}
}

// TestParseOfShortStrings tries all strings of few characters against a second description of the form.
func TestParseOfShortStrings(t *testing.T) {
	const letters = "019-+. /:"
	l := []string{""}
	for len(l) > 0 && len(l[0]) <= 5 {
		s := l[0]
		l = l[1:]
		for i := range letters {
			l = append(l, s+letters[i:i+1])
		}
		n, scale, ok := decimal.Parse(s)
		if ok != isDecimal(s) {
			t.Errorf("Parse(%q) is %d, %d, %v", s, n, scale, ok)
		}
		if ok && decimal.Print(n, scale) != s {
			t.Errorf("%q is printed as %q", s, decimal.Print(n, scale))
		}
		if !ok && (n != 0 || scale != 0) {
			t.Errorf("Parse(%q) is %d, %d, false", s, n, scale)
		}
	}
}

func isDecimal(s string) bool {
	rest := strings.TrimPrefix(s, "-")
	negative := rest != s
	parts := strings.Split(rest, ".")
	if len(parts) > 2 || strings.Trim(strings.Join(parts, ""), "0123456789") != "" {
		return false
	}
	for _, part := range parts {
		if part == "" {
			return false
		}
	}
	if parts[0] != "0" && strings.HasPrefix(parts[0], "0") {
		return false
	}
	return !negative || strings.ContainsAny(rest, "123456789")
}

func TestParseOfWhatWasPrinted(t *testing.T) {
	for _, n := range edges() {
		for scale := range api.MaxScale + 1 {
			s := decimal.Print(n, scale)
			if got, k, ok := decimal.Parse(s); got != n || k != scale || !ok {
				t.Errorf("Parse(Print(%d, %d)) is %d, %d, %v from %q", n, scale, got, k, ok, s)
			}
			if want := exact(n, scale).FloatString(scale); s != want {
				t.Errorf("Print(%d, %d) is %q, want %q", n, scale, s, want)
			}
		}
	}
}

// P2.2

func TestRescale(t *testing.T) {
	for _, c := range []struct {
		n, from, to, want int
		err               api.Errno
	}{
		{-25, 1, 0, -3, api.OK}, // ties
		{25, 1, 0, 3, api.OK},
		{5, 1, 0, 1, api.OK},
		{-5, 1, 0, -1, api.OK},
		{15, 1, 0, 2, api.OK},
		{-15, 1, 0, -2, api.OK},
		{500_000, 6, 0, 1, api.OK},
		{-500_000, 6, 0, -1, api.OK},
		{125, 2, 1, 13, api.OK},
		{-125, 2, 1, -13, api.OK},
		{4, 1, 0, 0, api.OK}, // below and above them
		{-4, 1, 0, 0, api.OK},
		{6, 1, 0, 1, api.OK},
		{24, 1, 0, 2, api.OK},
		{26, 1, 0, 3, api.OK},
		{-14, 1, 0, -1, api.OK},
		{-16, 1, 0, -2, api.OK},
		{49, 2, 0, 0, api.OK},
		{-49, 2, 0, 0, api.OK},
		{45, 2, 0, 0, api.OK}, // rounded once, not digit by digit
		{-45, 2, 0, 0, api.OK},
		{499_999, 6, 0, 0, api.OK},
		{500_001, 6, 0, 1, api.OK},
		{7, 0, 2, 700, api.OK},
		{-7, 0, 6, -7_000_000, api.OK},
		{7, 3, 3, 7, api.OK},
		{0, 0, 6, 0, api.OK},
		{0, 6, 0, 0, api.OK},
		{most, 0, 0, most, api.OK},
		{least, 0, 0, least, api.OK},
		{most, 6, 6, most, api.OK},
		{least, 6, 6, least, api.OK},
		{most, 6, 0, 9_223_372_036_855, api.OK},
		{least, 6, 0, -9_223_372_036_855, api.OK},
		{most, 1, 0, 922_337_203_685_477_581, api.OK},
		{least, 1, 0, -922_337_203_685_477_581, api.OK},
		{922_337_203_685_477_580, 0, 1, most - 7, api.OK}, // the ends
		{922_337_203_685_477_581, 0, 1, 0, api.ErrOver},
		{-922_337_203_685_477_580, 0, 1, least + 8, api.OK},
		{-922_337_203_685_477_581, 0, 1, 0, api.ErrOver},
		{9_223_372_036_854, 0, 6, 9_223_372_036_854_000_000, api.OK},
		{9_223_372_036_855, 0, 6, 0, api.ErrOver},
		{-9_223_372_036_854, 0, 6, -9_223_372_036_854_000_000, api.OK},
		{-9_223_372_036_855, 0, 6, 0, api.ErrOver},
		{1 << 62, 0, 1, 0, api.ErrOver},
		{1 << 62, 0, 6, 0, api.ErrOver},
		{1 << 62, 5, 6, 0, api.ErrOver},
		{most, 0, 6, 0, api.ErrOver},
		{least, 0, 6, 0, api.ErrOver},
		{1 << 58, 0, 6, 0, api.ErrOver}, // 64 bits of the product alone would be in range: 0
	} {
		if n, err := decimal.Rescale(c.n, c.from, c.to); n != c.want || err != c.err {
			t.Errorf("Rescale(%d, %d, %d) is %d, %v, want %d, %v", c.n, c.from, c.to, n, err, c.want, c.err)
		}
	}
}

func TestRescaleOfEdges(t *testing.T) {
	for _, n := range edges() {
		for from := range api.MaxScale + 1 {
			for to := range api.MaxScale + 1 {
				want, wantErr := rounded(exact(n, from), to)
				if got, err := decimal.Rescale(n, from, to); got != want || err != wantErr {
					t.Errorf("Rescale(%d, %d, %d) is %d, %v, want %d, %v", n, from, to, got, err, want, wantErr)
				}
			}
		}
	}
}

func TestRescaleWithBadScale(t *testing.T) {
	for _, bad := range badScales {
		for _, scales := range [][2]int{{bad, 0}, {0, bad}, {6, bad}, {bad, 6}, {bad, bad}} {
			for _, n := range []int{0, 1, most, least} {
				if got, err := decimal.Rescale(n, scales[0], scales[1]); got != 0 || err != api.ErrArg {
					t.Errorf("Rescale(%d, %d, %d) is %d, %v", n, scales[0], scales[1], got, err)
				}
			}
		}
	}
}

func TestCompare(t *testing.T) {
	for _, c := range []struct{ a, as, b, bs, want int }{
		{1, 0, 2, 0, -1},
		{2, 0, 1, 0, 1},
		{1, 0, 1, 0, 0},
		{150, 2, 15, 1, 0},
		{-150, 2, -15, 1, 0},
		{151, 2, 15, 1, 1},
		{149, 2, 15, 1, -1},
		{-151, 2, -15, 1, -1},
		{-149, 2, -15, 1, 1},
		{0, 0, 0, 6, 0},
		{0, 6, 1, 6, -1},
		{0, 0, -1, 6, 1},
		{1, 6, -1, 6, 1},
		{-1, 6, 1, 6, -1},
		{-1, 6, -1, 0, 1},
		{1, 6, 1, 0, -1},
		{2, 0, 10, 1, 1}, // the scale matters more than the number
		{-2, 0, -10, 1, -1},
		{most, 0, most, 6, 1},
		{least, 0, least, 6, -1},
		{most, 6, most, 0, -1},
		{least, 6, least, 0, 1},
		{least, 0, most, 6, -1},
		{most, 0, least, 0, 1},
		{least, 6, most, 0, -1},
		{most, 3, most, 3, 0},
		{least, 3, least, 3, 0},
		{most, 0, most - 1, 0, 1},
		{least, 6, least + 1, 6, -1},
		{9_223_372_036_854, 0, most, 6, -1},
		{9_223_372_036_855, 0, most, 6, 1},
		{-9_223_372_036_855, 0, least, 6, -1},
		{-9_223_372_036_854, 0, least, 6, 1},
		{1 << 58, 0, 0, 6, 1}, // 64 bits of the product alone would be 0
		{-1 << 58, 0, 0, 6, -1},
	} {
		if got := decimal.Compare(c.a, c.as, c.b, c.bs); got != c.want {
			t.Errorf("Compare(%d, %d, %d, %d) is %d, want %d", c.a, c.as, c.b, c.bs, got, c.want)
		}
	}
}

func TestCompareOfEdges(t *testing.T) {
	for _, a := range edges() {
		for _, b := range edges() {
			for _, scales := range [][2]int{{0, 0}, {0, 6}, {6, 0}, {6, 6}, {1, 2}, {5, 3}} {
				want := exact(a, scales[0]).Cmp(exact(b, scales[1]))
				if got := decimal.Compare(a, scales[0], b, scales[1]); got != want {
					t.Errorf("Compare(%d, %d, %d, %d) is %d, want %d", a, scales[0], b, scales[1], got, want)
				}
			}
		}
	}
}

func TestCompareWithBadScale(t *testing.T) {
	for _, bad := range badScales {
		for _, scales := range [][2]int{{bad, 0}, {0, bad}, {6, bad}, {bad, 6}, {bad, bad}} {
			for _, n := range [][2]int{{1, 2}, {2, 1}, {-1, 1}, {1, -1}, {most, least}, {least, most}} {
				if got := decimal.Compare(n[0], scales[0], n[1], scales[1]); got != 0 {
					t.Errorf("Compare(%d, %d, %d, %d) is %d", n[0], scales[0], n[1], scales[1], got)
				}
			}
		}
	}
}

// P2.3

func TestAddAndSub(t *testing.T) {
	for _, c := range []struct {
		a, b, sum int
		err       api.Errno
	}{
		{1, 2, 3, api.OK},
		{-1, 2, 1, api.OK},
		{0, 0, 0, api.OK},
		{most, 0, most, api.OK},
		{least, 0, least, api.OK},
		{most - 1, 1, most, api.OK},
		{least + 1, -1, least, api.OK},
		{most, 1, 0, api.ErrOver},
		{1, most, 0, api.ErrOver},
		{least, -1, 0, api.ErrOver},
		{-1, least, 0, api.ErrOver},
		{most, most, 0, api.ErrOver},
		{least, least, 0, api.ErrOver}, // wraps round to 0
		{most, least, -1, api.OK},
		{least, most, -1, api.OK},
		{1 << 62, 1 << 62, 0, api.ErrOver},
		{-1 << 62, -1 << 62, least, api.OK},
	} {
		if sum, err := decimal.Add(c.a, c.b); sum != c.sum || err != c.err {
			t.Errorf("Add(%d, %d) is %d, %v, want %d, %v", c.a, c.b, sum, err, c.sum, c.err)
		}
	}
	for _, c := range []struct {
		a, b, difference int
		err              api.Errno
	}{
		{3, 2, 1, api.OK},
		{2, 3, -1, api.OK},
		{0, 0, 0, api.OK},
		{most, most, 0, api.OK},
		{least, least, 0, api.OK},
		{least, 0, least, api.OK},
		{-1, least, most, api.OK},
		{0, least, 0, api.ErrOver},
		{1, least, 0, api.ErrOver},
		{least, 1, 0, api.ErrOver},
		{most, -1, 0, api.ErrOver},
		{0, most, least + 1, api.OK},
		{-1, most, least, api.OK},
		{-2, most, 0, api.ErrOver},
		{most, least, 0, api.ErrOver},
		{least, most, 0, api.ErrOver},
	} {
		if difference, err := decimal.Sub(c.a, c.b); difference != c.difference || err != c.err {
			t.Errorf("Sub(%d, %d) is %d, %v, want %d, %v", c.a, c.b, difference, err, c.difference, c.err)
		}
	}
}

func TestAddAndSubOfEdges(t *testing.T) {
	for _, a := range edges() {
		for _, b := range edges() {
			x, y := big.NewInt(int64(a)), big.NewInt(int64(b))
			want, wantErr := inRange(new(big.Int).Add(x, y))
			if got, err := decimal.Add(a, b); got != want || err != wantErr {
				t.Errorf("Add(%d, %d) is %d, %v, want %d, %v", a, b, got, err, want, wantErr)
			}
			want, wantErr = inRange(new(big.Int).Sub(x, y))
			if got, err := decimal.Sub(a, b); got != want || err != wantErr {
				t.Errorf("Sub(%d, %d) is %d, %v, want %d, %v", a, b, got, err, want, wantErr)
			}
		}
	}
}

func TestMul(t *testing.T) {
	for _, c := range []struct {
		a, as, b, bs, to, want int
		err                    api.Errno
	}{
		{15, 1, 15, 1, 1, 23, api.OK}, // ties
		{-15, 1, 15, 1, 1, -23, api.OK},
		{15, 1, -15, 1, 1, -23, api.OK},
		{-15, 1, -15, 1, 1, 23, api.OK},
		{5, 1, 1, 0, 0, 1, api.OK},
		{-5, 1, 1, 0, 0, -1, api.OK},
		{4, 1, 1, 0, 0, 0, api.OK},
		{-4, 1, 1, 0, 0, 0, api.OK},
		{15, 1, 15, 1, 2, 225, api.OK},
		{15, 1, 15, 1, 0, 2, api.OK},
		{15, 1, 15, 1, 6, 2_250_000, api.OK},
		{3, 0, 4, 0, 0, 12, api.OK},
		{3, 0, -4, 0, 6, -12_000_000, api.OK},
		{0, 6, least, 0, 0, 0, api.OK},
		{least, 0, 0, 6, 6, 0, api.OK},
		{1, 6, 1, 6, 6, 0, api.OK}, // twelve digits less, of which six stay
		{1000, 6, 500, 6, 6, 1, api.OK},
		{1000, 6, -500, 6, 6, -1, api.OK},
		{1000, 6, 499, 6, 6, 0, api.OK},
		{most, 6, most, 6, 0, 0, api.ErrOver},
		{1_000_000, 6, most, 0, 0, most, api.OK}, // through values beyond 64 bits
		{least, 6, 1_000_000, 0, 0, least, api.OK},
		{least, 6, 1_000_000, 6, 6, least, api.OK},
		{most, 6, 1_000_000, 6, 6, most, api.OK},
		{most, 6, -1_000_000, 6, 6, least + 1, api.OK},
		{least, 6, -1_000_000, 6, 6, 0, api.ErrOver},
		{3_037_000_500_000_000, 6, 3_037_000_499_000_000, 6, 0, 9_223_372_033_963_249_500, api.OK},
		{3_037_000_500_000_000, 6, 3_037_000_500_000_000, 6, 0, 0, api.ErrOver},
		{most, 0, 1, 0, 0, most, api.OK}, // the ends
		{most, 0, -1, 0, 0, least + 1, api.OK},
		{least, 0, 1, 0, 0, least, api.OK},
		{least, 0, -1, 0, 0, 0, api.ErrOver},
		{-1, 0, least, 0, 0, 0, api.ErrOver},
		{1 << 62, 0, 2, 0, 0, 0, api.ErrOver},
		{1 << 62, 0, -2, 0, 0, least, api.OK},
		{-1 << 62, 0, -2, 0, 0, 0, api.ErrOver},
		{1 << 32, 0, 1 << 32, 0, 0, 0, api.ErrOver}, // 64 bits of it alone would be 0
		{1 << 32, 0, 1 << 32, 0, 6, 0, api.ErrOver},
		{least, 0, least, 0, 0, 0, api.ErrOver},
		{least, 0, least, 0, 6, 0, api.ErrOver}, // 2^126 times a million is beyond 128 bits
		{most, 0, most, 0, 6, 0, api.ErrOver},
		{least, 6, least, 6, 0, 0, api.ErrOver},
		{1, 0, 9_223_372_036_854, 0, 6, 9_223_372_036_854_000_000, api.OK},
		{1, 0, 9_223_372_036_855, 0, 6, 0, api.ErrOver},
		{1844674407370955161, 0, 5, 0, 0, 9_223_372_036_854_775_805, api.OK},
		{1844674407370955162, 0, 5, 0, 0, 0, api.ErrOver},
		{1844674407370955162, 0, -5, 0, 0, 0, api.ErrOver},
		{18_446_744_073_709_551_615 / 3, 0, 15, 1, 0, 0, api.ErrOver}, // 9223372036854775807.5
		{18_446_744_073_709_551_615 / 3, 0, -15, 1, 0, least, api.OK},
		{7_686_143_364_045_646_507, 0, -12, 1, 0, least, api.OK},  // -9223372036854775808.4
		{145_295_143_558_111, 0, 1_269_605, 1, 0, 0, api.ErrOver}, // 18446744073709551615.5, whose 64 lowest bits are rounded to 0
		{145_295_143_558_111, 0, -1_269_605, 1, 0, 0, api.ErrOver},
		{67_280_421_310_721, 0, -1_370_885, 1, 0, 0, api.ErrOver}, // -9223372036854775808.5
		{8_384_883_669_867_978_007, 0, 11, 1, 0, 0, api.ErrOver},
		{8_384_883_669_867_978_007, 0, -11, 1, 0, least, api.OK},
		{8_384_883_669_867_978_006, 0, 11, 1, 0, most, api.OK},
	} {
		if got, err := decimal.Mul(c.a, c.as, c.b, c.bs, c.to); got != c.want || err != c.err {
			t.Errorf("Mul(%d, %d, %d, %d, %d) is %d, %v, want %d, %v", c.a, c.as, c.b, c.bs, c.to, got, err, c.want, c.err)
		}
	}
}

func TestDiv(t *testing.T) {
	for _, c := range []struct {
		a, as, b, bs, to, want int
		err                    api.Errno
	}{
		{1, 0, 3, 0, 2, 33, api.OK},
		{2, 0, 3, 0, 2, 67, api.OK},
		{-2, 0, 3, 0, 2, -67, api.OK},
		{7, 0, 2, 0, 0, 4, api.OK}, // ties
		{-7, 0, 2, 0, 0, -4, api.OK},
		{7, 0, -2, 0, 0, -4, api.OK},
		{-7, 0, -2, 0, 0, 4, api.OK},
		{1, 0, 2, 0, 0, 1, api.OK},
		{-1, 0, 2, 0, 0, -1, api.OK},
		{1, 0, 8, 0, 2, 13, api.OK},
		{-1, 0, 8, 0, 2, -13, api.OK},
		{1, 0, 3, 0, 0, 0, api.OK},
		{-1, 0, 3, 0, 0, 0, api.OK},
		{15, 1, 5, 1, 0, 3, api.OK},
		{15, 1, 5, 0, 1, 3, api.OK},
		{0, 6, 7, 0, 6, 0, api.OK},
		{0, 0, least, 6, 6, 0, api.OK},
		{1, 6, 2, 0, 6, 1, api.OK}, // scales that make the divisor greater
		{-1, 6, 2, 0, 6, -1, api.OK},
		{1, 6, 1 << 62, 0, 0, 0, api.OK},
		{1, 6, most, 0, 0, 0, api.OK},
		{least, 6, least, 0, 0, 0, api.OK},
		{500_000, 6, 1, 0, 0, 1, api.OK},
		{-500_000, 6, 1, 0, 0, -1, api.OK},
		{499_999, 6, 1, 0, 0, 0, api.OK},
		{1_500_000, 6, 3, 0, 0, 1, api.OK},
		{1_499_999, 6, 3, 0, 0, 0, api.OK},
		{1_500_001, 6, 3, 0, 0, 1, api.OK},
		{1_500_002, 6, -3, 0, 0, -1, api.OK},
		{most, 6, 1, 0, 0, 9_223_372_036_855, api.OK},
		{most, 6, most, 6, 6, 1_000_000, api.OK}, // through values beyond 64 bits
		{least, 0, least, 6, 0, 1_000_000, api.OK},
		{most, 0, most, 6, 6, 1_000_000_000_000, api.OK},
		{least, 0, 1_000_000, 0, 6, least, api.OK},
		{most, 0, 1_000_000, 0, 6, most, api.OK},
		{most, 0, -1_000_000, 0, 6, least + 1, api.OK},
		{least, 0, -1_000_000, 0, 6, 0, api.ErrOver},
		{least, 0, 2, 0, 0, -1 << 62, api.OK},
		{most, 0, 2, 0, 0, 1 << 62, api.OK},
		{most, 0, most, 0, 0, 1, api.OK},
		{most, 0, least, 0, 0, -1, api.OK},
		{1 << 62, 0, least, 0, 0, -1, api.OK}, // a tie by the greatest divisor
		{1<<62 - 1, 0, least, 0, 0, 0, api.OK},
		{least, 0, 1, 0, 0, least, api.OK}, // the ends
		{most, 0, 1, 0, 0, most, api.OK},
		{most, 0, -1, 0, 0, least + 1, api.OK},
		{least, 0, -1, 0, 0, 0, api.ErrOver},
		{least, 6, -1, 6, 0, 0, api.ErrOver},
		{1, 0, 1, 6, 6, 1_000_000_000_000, api.OK},
		{most, 0, 1, 6, 6, 0, api.ErrOver},
		{least, 0, 1, 6, 6, 0, api.ErrOver},
		{most, 0, 1, 1, 0, 0, api.ErrOver},
		{1 << 62, 0, 5, 1, 0, 0, api.ErrOver},
		{1 << 62, 0, -5, 1, 0, least, api.OK},
		{1 << 58, 0, 1, 6, 0, 0, api.ErrOver}, // 64 bits of it alone would be 0
		{9_223_372_036_854_775_805, 0, 10, 1, 0, 9_223_372_036_854_775_805, api.OK},
		{18_446_744_073_709_551_615 / 5, 0, 4, 1, 0, 0, api.ErrOver}, // 9223372036854775807.5
		{18_446_744_073_709_551_615 / 5, 0, -4, 1, 0, least, api.OK},
		{7_378_697_629_483_820_646, 0, -8, 1, 0, least, api.OK},  // -9223372036854775807.5
		{5_534_023_222_112_865_485, 0, -6, 1, 0, least, api.OK},  // -9223372036854775808.33..
		{6_456_360_425_798_343_066, 0, -7, 1, 0, 0, api.ErrOver}, // -9223372036854775808.57..
		{8116567392432202711, 0, 44, 2, 0, 0, api.ErrOver},       // 18446744073709551615.9.., whose 64 lowest bits are rounded to 0
		{8116567392432202711, 0, -44, 2, 0, 0, api.ErrOver},
		{7_378_697_629_483_820_647, 0, -8, 1, 0, 0, api.ErrOver}, // -9223372036854775808.75
	} {
		if got, err := decimal.Div(c.a, c.as, c.b, c.bs, c.to); got != c.want || err != c.err {
			t.Errorf("Div(%d, %d, %d, %d, %d) is %d, %v, want %d, %v", c.a, c.as, c.b, c.bs, c.to, got, err, c.want, c.err)
		}
	}
}

// checkMulDiv holds both functions against the exact product and quotient.
func checkMulDiv(t *testing.T, a, as, b, bs, to int) {
	t.Helper()
	x, y := exact(a, as), exact(b, bs)
	want, wantErr := rounded(new(big.Rat).Mul(x, y), to)
	if got, err := decimal.Mul(a, as, b, bs, to); got != want || err != wantErr {
		t.Errorf("Mul(%d, %d, %d, %d, %d) is %d, %v, want %d, %v", a, as, b, bs, to, got, err, want, wantErr)
	}
	want, wantErr = 0, api.ErrZero
	if b != 0 {
		want, wantErr = rounded(new(big.Rat).Quo(x, y), to)
	}
	if got, err := decimal.Div(a, as, b, bs, to); got != want || err != wantErr {
		t.Errorf("Div(%d, %d, %d, %d, %d) is %d, %v, want %d, %v", a, as, b, bs, to, got, err, want, wantErr)
	}
}

func TestMulAndDivOfEdges(t *testing.T) {
	for _, a := range edges() {
		for _, b := range edges() {
			for _, scales := range [][3]int{{0, 0, 0}, {0, 0, 6}, {0, 6, 0}, {0, 6, 6}, {6, 0, 0}, {6, 0, 6}, {6, 6, 0}, {6, 6, 6}, {1, 0, 0}, {2, 1, 0}, {1, 2, 3}, {5, 3, 1}} {
				checkMulDiv(t, a, scales[0], b, scales[1], scales[2])
			}
		}
	}
}

func TestMulAndDivOfSmallNumbers(t *testing.T) {
	for a := -60; a <= 60; a++ {
		for b := -25; b <= 25; b++ {
			for as := range 3 {
				for bs := range 2 {
					checkMulDiv(t, a, as, b, bs, 0)
					checkMulDiv(t, a, as, b, bs, 1)
				}
			}
		}
	}
}

func TestMulAndDivOfAllScales(t *testing.T) {
	for _, n := range [][2]int{{123_456_789, 1_000_003}, {-500_000, 999_999}, {most, 7}, {least, -3}, {15_000_000, 10_000_000}} {
		for as := range api.MaxScale + 1 {
			for bs := range api.MaxScale + 1 {
				for to := range api.MaxScale + 1 {
					checkMulDiv(t, n[0], as, n[1], bs, to)
				}
			}
		}
	}
}

func TestMulAndDivWithBadScale(t *testing.T) {
	for _, bad := range badScales {
		for _, scales := range [][3]int{{bad, 0, 0}, {0, bad, 0}, {0, 0, bad}, {6, 6, bad}, {6, bad, 6}, {bad, 6, 6}, {bad, bad, bad}, {bad, -bad, 0}} {
			for _, n := range [][2]int{{6, 3}, {0, 0}, {1, 0}, {most, most}, {least, -1}} {
				if got, err := decimal.Mul(n[0], scales[0], n[1], scales[1], scales[2]); got != 0 || err != api.ErrArg {
					t.Errorf("Mul(%d, %d, %d, %d, %d) is %d, %v", n[0], scales[0], n[1], scales[1], scales[2], got, err)
				}
				// ErrArg comes before ErrZero.
				if got, err := decimal.Div(n[0], scales[0], n[1], scales[1], scales[2]); got != 0 || err != api.ErrArg {
					t.Errorf("Div(%d, %d, %d, %d, %d) is %d, %v", n[0], scales[0], n[1], scales[1], scales[2], got, err)
				}
			}
		}
	}
}

func TestDivByZero(t *testing.T) {
	for _, a := range edges() {
		for _, scale := range []int{0, 3, 6} {
			if got, err := decimal.Div(a, scale, 0, scale, 6-scale); got != 0 || err != api.ErrZero {
				t.Errorf("Div(%d, %d, 0, %d, %d) is %d, %v", a, scale, scale, 6-scale, got, err)
			}
		}
	}
}

func TestMod(t *testing.T) {
	for _, c := range []struct {
		a, b, want int
		err        api.Errno
	}{
		{7, 2, 1, api.OK},
		{-7, 2, -1, api.OK},
		{7, -2, 1, api.OK},
		{-7, -2, -1, api.OK},
		{6, 3, 0, api.OK},
		{-6, 3, 0, api.OK},
		{2, 7, 2, api.OK},
		{-2, 7, -2, api.OK},
		{0, 5, 0, api.OK},
		{5, 1, 0, api.OK},
		{least, -1, 0, api.OK},
		{least, 1, 0, api.OK},
		{least, 2, 0, api.OK},
		{least, 10, -8, api.OK},
		{most, 10, 7, api.OK},
		{least, most, -1, api.OK},
		{most, least, most, api.OK},
		{-5, least, -5, api.OK},
		{least, least, 0, api.OK},
		{0, 0, 0, api.ErrZero},
		{5, 0, 0, api.ErrZero},
		{-5, 0, 0, api.ErrZero},
		{most, 0, 0, api.ErrZero},
		{least, 0, 0, api.ErrZero},
	} {
		if got, err := decimal.Mod(c.a, c.b); got != c.want || err != c.err {
			t.Errorf("Mod(%d, %d) is %d, %v, want %d, %v", c.a, c.b, got, err, c.want, c.err)
		}
	}
}

func TestModOfEdges(t *testing.T) {
	for _, a := range edges() {
		for _, b := range edges() {
			if b == 0 {
				continue
			}
			want := int(new(big.Int).Rem(big.NewInt(int64(a)), big.NewInt(int64(b))).Int64())
			if got, err := decimal.Mod(a, b); got != want || err != api.OK {
				t.Errorf("Mod(%d, %d) is %d, %v, want %d", a, b, got, err, want)
			}
		}
	}
}

func FuzzMulDiv(f *testing.F) {
	f.Add(15, 15, uint(1), uint(1), uint(1))
	f.Add(least, -1, uint(6), uint(0), uint(6))
	f.Fuzz(func(t *testing.T, a, b int, as, bs, to uint) {
		checkMulDiv(t, a, int(as%7), b, int(bs%7), int(to%7))
	})
}

func FuzzParse(f *testing.F) {
	for _, c := range strs {
		f.Add(c.s)
	}
	f.Fuzz(func(t *testing.T, s string) {
		n, scale, ok := decimal.Parse(s)
		if ok && (!decimal.Right(scale) || decimal.Print(n, scale) != s) {
			t.Errorf("Parse(%q) is %d, %d, printed as %q", s, n, scale, decimal.Print(n, scale))
		}
		if !ok && (n != 0 || scale != 0) {
			t.Errorf("Parse(%q) is %d, %d, false", s, n, scale)
		}
	})
}
