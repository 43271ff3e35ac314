package cable

import (
	"math/bits"

	"moonpool/api"
)

// greater compares fractions that are not negative, whose products with each other exceed an int.
func greater(a, b api.Frac) bool {
	high, low := bits.Mul64(uint64(a.Num), uint64(b.Den))
	otherHigh, otherLow := bits.Mul64(uint64(b.Num), uint64(a.Den))
	return high > otherHigh || high == otherHigh && low > otherLow
}

// root is the root of a number from 0 to 2^60, rounded down.
func root(n int) int {
	r := 0
	for bit := 1 << 30; bit > 0; bit >>= 1 {
		if (r+bit)*(r+bit) <= n {
			r += bit
		}
	}
	return r
}

// rootUp is the root of a number from 0 to 2^60, rounded up.
func rootUp(n int) int {
	r := root(n)
	if r*r < n {
		r++
	}
	return r
}
