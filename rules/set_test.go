package rules_test

import (
	"slices"
	"testing"

	"moonpool/rules"
)

// Terms: minimum set

func TestSet(t *testing.T) {
	for _, c := range []struct{ numbers, members []int }{
		{nil, nil},
		{[]int{0}, []int{0}},
		{[]int{5, 2, 9, 2}, []int{2, 5, 9}},
		{[]int{62, 0}, []int{0, 62}},
	} {
		s := rules.SetOf(c.numbers...)
		if m := s.Members(); !slices.Equal(m, c.members) || s.Size() != len(c.members) {
			t.Errorf("the set of %v: %v, %d of them", c.numbers, m, s.Size())
		}
		for n := range 63 {
			if s.Has(n) != slices.Contains(c.members, n) {
				t.Errorf("the set of %v has %d: %v", c.numbers, n, s.Has(n))
			}
		}
	}
}

func TestBest(t *testing.T) {
	weights := []int{4, 1, 3, 0, 2}
	weightOf := func(s rules.Set) int {
		sum := 0
		for _, n := range s.Members() {
			sum += weights[n]
		}
		return sum
	}
	for _, c := range []struct {
		name  string
		count int
		fit   func(s rules.Set) bool
		found []int
		least int
		ok    bool
	}{
		{"any", 5, func(s rules.Set) bool { return true }, nil, 0, true},
		{"none", 5, func(s rules.Set) bool { return false }, nil, 0, false},
		{"of no numbers", 0, func(s rules.Set) bool { return true }, nil, 0, true},
		{"the least weight", 5, func(s rules.Set) bool { return s.Has(0) != s.Has(4) }, []int{4}, 2, true},
		{"the smallest of one weight", 5, func(s rules.Set) bool { return weightOf(s) == 4 }, []int{0}, 4, true},
		{"the first of one size", 5, func(s rules.Set) bool { return s.Size() == 2 && weightOf(s) == 3 }, []int{1, 4}, 3, true},
		{"the weight before the size", 5, func(s rules.Set) bool { return s == rules.SetOf(0) || s == rules.SetOf(1, 3, 4) }, []int{1, 3, 4}, 3, true},
		{"numbers below count alone", 3, func(s rules.Set) bool { return s != 0 }, []int{1}, 1, true},
	} {
		s, least, ok := rules.Best(c.count, func(s rules.Set) (int, bool) { return weightOf(s), c.fit(s) })
		if !slices.Equal(s.Members(), c.found) || least != c.least || ok != c.ok {
			t.Errorf("Best: %s: %v, %d, %v, want %v, %d, %v", c.name, s.Members(), least, ok, c.found, c.least, c.ok)
		}
	}
}

func TestMinimum(t *testing.T) {
	for _, c := range []struct {
		name  string
		fit   []rules.Set
		found []int
		ok    bool
	}{
		{"none", nil, nil, false},
		{"the empty set", []rules.Set{0, rules.SetOf(0)}, nil, true},
		{"the size before the order", []rules.Set{rules.SetOf(0, 1, 2), rules.SetOf(3, 4)}, []int{3, 4}, true},
		{"the order of one size", []rules.Set{rules.SetOf(1, 2), rules.SetOf(0, 4), rules.SetOf(1, 3)}, []int{0, 4}, true},
		{"the order of the second number", []rules.Set{rules.SetOf(1, 4), rules.SetOf(1, 3), rules.SetOf(2, 3)}, []int{1, 3}, true},
		{"a number that is not below count", []rules.Set{rules.SetOf(5), rules.SetOf(0, 1)}, []int{0, 1}, true},
	} {
		s, ok := rules.Minimum(5, func(s rules.Set) bool { return slices.Contains(c.fit, s) })
		if !slices.Equal(s.Members(), c.found) || ok != c.ok {
			t.Errorf("Minimum: %s: %v, %v, want %v, %v", c.name, s.Members(), ok, c.found, c.ok)
		}
	}
}
