package sonar

import (
	"cmp"
	"math/bits"
	"slices"
)

// set is numbers from 0 on: those of its bits that are 1.
type set int

func (s set) has(n int) bool { return s>>n&1 == 1 }

func (s set) with(n int) set { return s | 1<<n }

// members are the numbers of a set, ascending.
func (s set) members() []int {
	var l []int
	for n := range bits.Len(uint(s)) {
		if s.has(n) {
			l = append(l, n)
		}
	}
	return l
}

// precedes is whether a set is smaller than another one, or as large and lexicographically before it.
func (s set) precedes(t set) bool {
	a, b := s.members(), t.members()
	return cmp.Or(cmp.Compare(len(a), len(b)), slices.Compare(a, b)) < 0
}

// best is the fit set of numbers below count with the least weight, of several the smallest one, of these the first one.
// It is false if no set is fit.
func best(count int, weigh func(s set) (weight int, fit bool)) (found set, least int, ok bool) {
	for s := range set(1) << count {
		weight, fit := weigh(s)
		if fit && (!ok || weight < least || weight == least && s.precedes(found)) {
			found, least, ok = s, weight, true
		}
	}
	return found, least, ok
}
