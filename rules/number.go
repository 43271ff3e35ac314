package rules

import "moonpool/api"

// Divisor is the greatest number that divides all numbers, or 0 if they are all 0.
func Divisor(numbers ...int) int {
	by := 0
	for _, n := range numbers {
		for n != 0 {
			by, n = n, by%n
		}
	}
	return max(by, -by)
}

// Lowest is a fraction in lowest terms, for a denominator above 0.
func Lowest(num, den int) api.Frac {
	by := Divisor(num, den)
	return api.Frac{Num: num / by, Den: den / by}
}

// Floor is a quotient rounded down, for a divisor above 0.
func Floor(n, by int) int {
	q := n / by
	if n%by < 0 {
		q--
	}
	return q
}

// Ceiling is a quotient rounded up, for a divisor above 0.
func Ceiling(n, by int) int { return -Floor(-n, by) }
