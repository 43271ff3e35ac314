package cable

import (
	"math/bits"

	"moonpool/api"
)

// greater compares fractions that are not negative, whose products with each other exceed an int.
func greater(a, b api.Frac) bool {
	high, low := bits.Mul64(uint64(a.Num), uint64(b.Den))
	otherHigh, otherLow := bits.Mul64(uint64(b.Num), uint64(a.Den))
	return high > otherHigh || high == otherHigh && low > otherLow
}

// floor is a quotient rounded down, for a divisor above 0.
func floor(n, by int) int {
	q := n / by
	if n%by < 0 {
		q--
	}
	return q
}

// ceiling is a quotient rounded up, for a divisor above 0.
func ceiling(n, by int) int { return -floor(-n, by) }

// root is the root of a number from 0 to 2^60, rounded down.
func root(n int) int {
	r := 0
	for bit := 1 << 30; bit > 0; bit >>= 1 {
		if (r+bit)*(r+bit) <= n {
			r += bit
		}
	}
	return r
}

// rootUp is the root of a number from 0 to 2^60, rounded up.
func rootUp(n int) int {
	r := root(n)
	if r*r < n {
		r++
	}
	return r
}
