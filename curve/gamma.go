package curve

import (
	"math/bits"
	"slices"
	"sort"

	"gouache/api"
)

// maxPower is the greatest numerator and the greatest denominator of an exponent.
const maxPower = 8

// Gamma returns, with n points, the curve x to the power of num / den, exactly rounded down.
func Gamma(num, den, n int) (api.Curve, api.Errno) {
	if !validPower(num) || !validPower(den) || !validCount(n) {
		return nil, api.ErrArg
	}
	return build(n, func(i, _ int) int { return root(i, n-1, num, den) }), api.OK
}

// validPower reports whether the numerator or the denominator of an exponent may be p.
func validPower(p int) bool {
	return 1 <= p && p <= maxPower
}

// root returns the largest y in 0..65535 with (y/65535)^den <= (i/last)^num.
func root(i, last, num, den int) int {
	// Both sides are multiplied by the denominators, because only integers are compared exactly.
	bound := product(i, num, top, den)
	beyond := sort.Search(top+1, func(y int) bool { return product(y, den, last, num).exceeds(bound) })
	return beyond - 1
}

// product returns a^p * b^q. With exponents of at most 8, one base of at most 65535 and the other one of at most 256, it is less than 2^192.
func product(a, p, b, q int) wide {
	w := wide{0, 0, 1}
	for range p {
		w = w.times(a)
	}
	for range q {
		w = w.times(b)
	}
	return w
}

// wide is an integer from 0 to 2^192 - 1. The most significant word comes first, so that slices.Compare compares numbers.
type wide [3]uint64

// times returns w multiplied by a factor that is not negative.
func (w wide) times(factor int) wide {
	var result wide
	carry := uint64(0)
	for i, word := range slices.Backward(w[:]) {
		high, low := bits.Mul64(word, uint64(factor))
		sum, carryOut := bits.Add64(low, carry, 0)
		result[i], carry = sum, high+carryOut
	}
	return result
}

// exceeds reports whether w is greater than v.
func (w wide) exceeds(v wide) bool {
	return slices.Compare(w[:], v[:]) > 0
}
