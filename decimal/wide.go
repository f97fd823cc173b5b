package decimal

import (
	"cmp"
	"math"
	"math/bits"

	"refit/api"
)

// wide is a magnitude of 128 bits: products, and numbers that are shifted before a division, pass beyond 64.
type wide struct {
	high, low uint64
}

func product(a, b uint64) wide {
	high, low := bits.Mul64(a, b)
	return wide{high, low}
}

func (w wide) compare(v wide) int {
	return cmp.Or(cmp.Compare(w.high, v.high), cmp.Compare(w.low, v.low))
}

// divided returns the truncated quotient and the remainder; by is not 0.
func (w wide) divided(by uint64) (wide, uint64) {
	high := w.high / by
	low, rest := bits.Div64(w.high%by, w.low, by)
	return wide{high, low}, rest
}

// rounded returns the quotient, with ties rounded up; by is not 0.
func (w wide) rounded(by uint64) wide {
	quotient, rest := w.divided(by)
	// Twice the remainder might not fit, so the remainder is held against what is missing to by.
	if rest < by-rest {
		return quotient
	}
	low, carry := bits.Add64(quotient.low, 1, 0)
	return wide{quotient.high + carry, low}
}

// shifted returns w times ten to the power of places, rounded; a w beyond 64 bits that would grow stays as it is.
func (w wide) shifted(places int) wide {
	if places < 0 {
		return w.rounded(power(-places))
	}
	// It is out of range already, whatever it is multiplied by.
	if w.high != 0 {
		return w
	}
	return product(w.low, power(places))
}

// signed returns w as a number, if it is in range. ErrOver.
func (w wide) signed(negative bool) (int, api.Errno) {
	most := uint64(math.MaxInt)
	if negative {
		most++
	}
	if w.high != 0 || w.low > most {
		return 0, api.ErrOver
	}
	if negative {
		return int(-w.low), api.OK
	}
	return int(w.low), api.OK
}

// magnitude returns n without its sign, which fits even for the least number.
func magnitude(n int) uint64 {
	if n < 0 {
		return -uint64(n)
	}
	return uint64(n)
}

// power returns ten to an exponent from 0 to 19.
func power(exponent int) uint64 {
	result := uint64(1)
	for range exponent {
		result *= 10
	}
	return result
}
