package rules

import "moonpool/api"

// OrderError is ErrOrder if the ends of a range are in the wrong order.
func OrderError(r api.Range) api.Errno {
	if r.Lo > r.Hi {
		return api.ErrOrder
	}
	return api.OK
}

// RangeError is the error of a range whose ends are at most most in size.
func RangeError(r api.Range, most int) api.Errno {
	return FirstError(SizeError(most, r.Lo, r.Hi), OrderError(r))
}

// Common is what two ranges have in common. Its ends are in the wrong order if that is nothing.
func Common(a, b api.Range) api.Range { return api.Range{Lo: max(a.Lo, b.Lo), Hi: min(a.Hi, b.Hi)} }

// Apart is the distance of two ranges: the difference of their nearer ends, 0 if they have a common number.
func Apart(a, b api.Range) int { return max(0, a.Lo-b.Hi, b.Lo-a.Hi) }

// Stretches are the largest ranges of neighbouring numbers of a range that are such.
func Stretches(r api.Range, such func(n int) bool) []api.Range {
	var found []api.Range
	from := r.Lo
	for n := r.Lo; n <= r.Hi+1; n++ {
		if n <= r.Hi && such(n) {
			continue
		}
		if from < n {
			found = append(found, api.Range{Lo: from, Hi: n - 1})
		}
		from = n + 1
	}
	return found
}
