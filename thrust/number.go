package thrust

import (
	"moonpool/api"
	"moonpool/rules"
)

// lowest is fractions with one denominator, which is not 0, in lowest terms.
func lowest(den int, parts ...int) (int, []int) {
	by := divisor(den, parts...)
	if den < 0 {
		by = -by
	}
	reduced := make([]int, len(parts))
	for i, n := range parts {
		reduced[i] = n / by
	}
	return den / by, reduced
}

func divisor(den int, parts ...int) int { return rules.Divisor(den, rules.Divisor(parts...)) }

// fractionsError is the error of fractions with one denominator, of which there must be so many.
func fractionsError(count, den int, parts ...int) api.Errno {
	if e := rules.LimitError(den, 1, api.MaxPart); e != api.OK {
		return e
	}
	if len(parts) != count {
		return api.ErrShape
	}
	if e := rules.SizeError(api.MaxThrustPart, parts...); e != api.OK {
		return e
	}
	if divisor(den, parts...) != 1 {
		return api.ErrForm
	}
	return api.OK
}

// rounded is a fraction, for a denominator above 0, rounded to the nearest whole number, and halves towards 0.
func rounded(num, den int) int {
	if num < 0 {
		return -rounded(-num, den)
	}
	return (2*num + den - 1) / (2 * den)
}
