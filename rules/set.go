package rules

import (
	"cmp"
	"math/bits"
	"slices"
)

// Set is numbers from 0 on: those of its bits that are 1.
type Set int

// SetOf is the set of numbers.
func SetOf(numbers ...int) Set {
	var s Set
	for _, n := range numbers {
		s = s.With(n)
	}
	return s
}

// Has is whether a number is in a set.
func (s Set) Has(n int) bool { return s>>n&1 == 1 }

// With is a set with one more number.
func (s Set) With(n int) Set { return s | 1<<n }

// Size is how many numbers a set has.
func (s Set) Size() int { return bits.OnesCount(uint(s)) }

// Members are the numbers of a set, ascending.
func (s Set) Members() []int {
	var l []int
	for n := range bits.Len(uint(s)) {
		if s.Has(n) {
			l = append(l, n)
		}
	}
	return l
}

// precedes is whether a set is smaller than another one, or as large and lexicographically before it.
func (s Set) precedes(t Set) bool {
	a, b := s.Members(), t.Members()
	return cmp.Or(cmp.Compare(len(a), len(b)), slices.Compare(a, b)) < 0
}

// Best is the fit set of numbers below count with the least weight, of several the smallest one, of these the first one.
// It is false if no set is fit.
func Best(count int, weigh func(s Set) (weight int, fit bool)) (found Set, least int, ok bool) {
	for s := range Set(1) << count {
		weight, fit := weigh(s)
		if fit && (!ok || weight < least || weight == least && s.precedes(found)) {
			found, least, ok = s, weight, true
		}
	}
	return found, least, ok
}

// Minimum is the minimum set of those that are fit, of numbers below count. It is false if no set is fit.
func Minimum(count int, fit func(s Set) bool) (Set, bool) {
	found, _, ok := Best(count, func(s Set) (int, bool) { return 0, fit(s) })
	return found, ok
}
