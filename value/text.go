package value

import (
	"strings"

	"refit/api"
	"refit/decimal"
)

const (
	quote     = "'"
	twoQuotes = "''"
	bytesMark = "X"
	hexDigits = "0123456789ABCDEF"
)

// Print returns the text of v, from which Parse makes it again.
func Print(v api.Value) string {
	v = valid(v)
	switch v.Kind {
	case api.Bool:
		if v.N == 0 {
			return "FALSE"
		}
		return "TRUE"
	case api.Int:
		return decimal.Print(v.N, 0)
	case api.Dec:
		return printDec(v.N, v.Scale)
	case api.Text:
		return quoted(strings.ReplaceAll(v.S, quote, twoQuotes))
	case api.Bytes:
		return bytesMark + quoted(hexOf(v.S))
	}
	return "NULL"
}

// Parse returns the value whose text is s, and whether there is one.
func Parse(s string) (api.Value, bool) {
	v := guess(s)
	// A value has one text alone, so whatever guess let pass shows here.
	if Print(v) != s {
		return api.Value{}, false
	}
	return v, true
}

// printDec keeps the point where no digit follows it, so that the text differs from that of an Int.
func printDec(n, scale int) string {
	text := decimal.Print(n, scale)
	if scale == 0 {
		return text + "."
	}
	return text
}

func quoted(s string) string {
	return quote + s + quote
}

func hexOf(s string) string {
	var text strings.Builder
	for i := range len(s) {
		text.WriteByte(hexDigits[s[i]>>4])
		text.WriteByte(hexDigits[s[i]&15])
	}
	return text.String()
}

// guess returns the only value that may have the text s, or one of another text, perhaps not valid, if none has.
func guess(s string) api.Value {
	switch s {
	case "TRUE":
		return Bool(true)
	case "FALSE":
		return Bool(false)
	}
	if inner, ok := unquoted(s); ok {
		return api.Value{Kind: api.Text, S: strings.ReplaceAll(inner, twoQuotes, quote)}
	}
	if rest, ok := strings.CutPrefix(s, bytesMark); ok {
		return guessBytes(rest)
	}
	return guessNumber(s)
}

// unquoted returns what stands between the first and the last character of s, if both are apostrophes.
func unquoted(s string) (string, bool) {
	inner, opened := strings.CutPrefix(s, quote)
	inner, closed := strings.CutSuffix(inner, quote)
	return inner, opened && closed
}

func guessBytes(s string) api.Value {
	digits, ok := unquoted(s)
	// Longer ones are left alone, as no value has them.
	if !ok || len(digits)%2 != 0 || len(digits) > 2*api.MaxText {
		return api.Value{}
	}
	var result strings.Builder
	for i := 0; i < len(digits); i += 2 {
		high, low := strings.IndexByte(hexDigits, digits[i]), strings.IndexByte(hexDigits, digits[i+1])
		if high < 0 || low < 0 {
			return api.Value{}
		}
		result.WriteByte(byte(high<<4 | low))
	}
	return api.Value{Kind: api.Bytes, S: result.String()}
}

func guessNumber(s string) api.Value {
	number, pointed := strings.CutSuffix(s, ".")
	n, scale, ok := decimal.Parse(number)
	if !ok {
		return api.Value{}
	}
	if scale == 0 && !pointed {
		return api.Value{Kind: api.Int, N: n}
	}
	return api.Value{Kind: api.Dec, N: n, Scale: scale}
}
