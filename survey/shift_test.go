package survey_test

import (
	"fmt"
	"math"
	"slices"
	"testing"

	"moonpool/api"
	"moonpool/survey"
)

// P9.4, P9.14

func TestShiftIn(t *testing.T) {
	fits := examplePairs()
	lowest, highest := spanOf(-10000, -10000), spanOf(10000, 10000)
	for _, c := range []struct {
		name   string
		pairs  []api.SurveyPair
		shifts api.Range
		err    api.Errno
	}{
		{"example 7", fits, spanOf(2, 4), api.OK},
		{"the first pair alone", fits[:1], spanOf(1, 4), api.OK},
		{"the second pair alone", fits[1:], spanOf(2, 6), api.OK},
		{"the odd pair alone", []api.SurveyPair{oddPair()}, spanOf(-4, -4), api.OK},
		{"with the odd pair", append(fits, oddPair()), api.Range{}, api.ErrNone},
		{"one shift", append(fits, pairOf(spanOf(7, 7), spanOf(3, 3))), spanOf(4, 4), api.OK},
		{"just none", append(fits, pairOf(spanOf(8, 8), spanOf(3, 3))), api.Range{}, api.ErrNone},
		{"the shift 0", []api.SurveyPair{{}}, spanOf(0, 0), api.OK},
		{"the least shift", []api.SurveyPair{pairOf(lowest, highest)}, spanOf(-20000, -20000), api.OK},
		{"the greatest shift", []api.SurveyPair{pairOf(highest, lowest)}, spanOf(20000, 20000), api.OK},
		{"all shifts", []api.SurveyPair{pairOf(spanOf(-10000, 10000), spanOf(-10000, 10000))}, spanOf(-20000, 20000), api.OK},
	} {
		r, e := survey.ShiftIn(c.pairs)
		want(t, "ShiftIn: "+c.name, r, e, c.shifts, c.err)
	}
}

func TestOddPairs(t *testing.T) {
	at := func(shifts ...int) []api.SurveyPair {
		var l []api.SurveyPair
		for _, n := range shifts {
			l = append(l, pairOf(spanOf(n, n), spanOf(0, 0)))
		}
		return l
	}
	for _, c := range []struct {
		name  string
		pairs []api.SurveyPair
		odd   []int
	}{
		{"example 7", append(examplePairs(), oddPair()), []int{2}},
		{"none", examplePairs(), nil},
		{"a pair alone", []api.SurveyPair{oddPair()}, nil},
		{"the first of two", at(1, 2), []int{0}},
		{"the first ones of three", at(1, 2, 3), []int{0, 1}},
		{"two of five", at(4, 7, 4, 9, 4), []int{1, 3}},
		{"as many of one shift as of another one", at(4, 7, 4, 7), []int{0, 2}},
		{"the smaller set before the first one", at(1, 2, 2), []int{0}},
		{"the smaller set behind", at(2, 2, 1), []int{2}},
		{"all but the last one", at(1, 2, 3, 4, 5, 6, 7, 8, 9, 10, 11, 12), []int{0, 1, 2, 3, 4, 5, 6, 7, 8, 9, 10}},
	} {
		odd, e := survey.OddPairs(c.pairs)
		want(t, "OddPairs: "+c.name, odd, e, c.odd, api.OK)
	}
}

func TestErrorsOfPairs(t *testing.T) {
	fine := pairOf(spanOf(-10000, 10000), spanOf(-10000, 10000))
	for _, c := range []struct {
		name  string
		pairs []api.SurveyPair
		err   api.Errno
	}{
		{"as many as possible", slices.Repeat([]api.SurveyPair{fine}, 12), api.OK},
		{"none", nil, api.ErrShape},
		{"too many", slices.Repeat([]api.SurveyPair{fine}, 13), api.ErrLarge},
		{"too many bad ones", slices.Repeat([]api.SurveyPair{pairOf(spanOf(1, 0), spanOf(0, 0))}, 13), api.ErrLarge},
		{"First.Lo too small", []api.SurveyPair{fine, pairOf(spanOf(-10001, 0), spanOf(0, 0))}, api.ErrRange},
		{"First.Hi too great", []api.SurveyPair{pairOf(spanOf(0, 10001), spanOf(0, 0))}, api.ErrRange},
		{"Second.Lo too small", []api.SurveyPair{pairOf(spanOf(0, 0), spanOf(math.MinInt, 0))}, api.ErrRange},
		{"Second.Hi too great", []api.SurveyPair{pairOf(spanOf(0, 0), spanOf(0, math.MaxInt))}, api.ErrRange},
		{"First in the wrong order", []api.SurveyPair{pairOf(spanOf(1, 0), spanOf(0, 0))}, api.ErrOrder},
		{"Second in the wrong order", []api.SurveyPair{fine, pairOf(spanOf(0, 0), spanOf(4, 3))}, api.ErrOrder},
		{"an end before the order of the other one", []api.SurveyPair{pairOf(spanOf(1, 0), spanOf(0, 10001))}, api.ErrRange},
		{"the order before the next pair", []api.SurveyPair{pairOf(spanOf(1, 0), spanOf(0, 0)), pairOf(spanOf(0, 0), spanOf(0, 10001))}, api.ErrOrder},
	} {
		_, e := survey.ShiftIn(c.pairs)
		want(t, "ShiftIn: "+c.name, nil, e, nil, c.err)
		odd, e := survey.OddPairs(c.pairs)
		want(t, "OddPairs: "+c.name, odd, e, "[]", c.err)
		if c.err != api.OK {
			r, e := survey.ShiftIn(c.pairs)
			want(t, "ShiftIn: "+c.name, r, e, api.Range{}, c.err)
		}
	}
}

// fits is whether a shift fits a pair: some number of the second range, shifted, is in the first one.
func fits(p api.SurveyPair, shift int) bool {
	for n := p.Second.Lo; n <= p.Second.Hi; n++ {
		if has(p.First, n+shift) {
			return true
		}
	}
	return false
}

// shiftsOf are all shifts that fit all pairs but some.
func shiftsOf(l []api.SurveyPair, without []int) []int {
	var all []int
	for shift := -100; shift <= 100; shift++ {
		isFit := true
		for i, p := range l {
			isFit = isFit && (slices.Contains(without, i) || fits(p, shift))
		}
		if isFit {
			all = append(all, shift)
		}
	}
	return all
}

// TestShiftsAmongAll tries all shifts, and all sets of odd pairs.
func TestShiftsAmongAll(t *testing.T) {
	r := newRandom()
	all := map[int][][]int{}
	for count := range 7 {
		all[count] = sets(count)
	}
	sizes := map[int]int{}
	for range 500 {
		l := randomPairs(r, 6)
		what := fmt.Sprint(l)
		var shifts api.Range
		err := api.ErrNone
		if fitting := shiftsOf(l, nil); len(fitting) > 0 {
			shifts, err = spanOf(fitting[0], fitting[len(fitting)-1]), api.OK
			want(t, "the number of shifts of "+what, len(fitting), api.OK, shifts.Hi-shifts.Lo+1, api.OK)
		}
		got, e := survey.ShiftIn(l)
		want(t, "ShiftIn "+what, got, e, shifts, err)
		i := slices.IndexFunc(all[len(l)], func(set []int) bool { return len(shiftsOf(l, set)) > 0 })
		odd, e := survey.OddPairs(l)
		want(t, "OddPairs "+what, odd, e, all[len(l)][i], api.OK)
		sizes[len(odd)]++
	}
	for size := range 4 {
		if sizes[size] < 30 {
			t.Errorf("too few sets of odd pairs of one size are tested: %v", sizes)
		}
	}
}

// TestTheTrueShiftFits is whether a shift between true heights fits whatever the ranges around them are.
func TestTheTrueShiftFits(t *testing.T) {
	r := newRandom()
	for range 2000 {
		shift := between(r, -100, 100)
		var l []api.SurveyPair
		around := func(n int) api.Range { return spanOf(n-r.IntN(5), n+r.IntN(5)) }
		for range between(r, 1, 12) {
			height := between(r, -500, 500)
			l = append(l, pairOf(around(height), around(height-shift)))
		}
		fitting, e := survey.ShiftIn(l)
		if !has(fitting, shift) || e != api.OK {
			t.Errorf("ShiftIn %v: %v, error %d, but the true one is %d", l, fitting, e, shift)
		}
		odd, e := survey.OddPairs(l)
		want(t, fmt.Sprint("OddPairs ", l), odd, e, "[]", api.OK)
	}
}

// TestWithoutOddPairs is whether some shift fits all others, and then none is odd.
func TestWithoutOddPairs(t *testing.T) {
	r := newRandom()
	found := 0
	for range 1000 {
		l := randomPairs(r, 12)
		odd, _ := survey.OddPairs(l)
		var others []api.SurveyPair
		for i, p := range l {
			if !slices.Contains(odd, i) {
				others = append(others, p)
			}
		}
		what := fmt.Sprint(l, " without ", odd)
		_, e := survey.ShiftIn(others)
		want(t, "ShiftIn "+what, nil, e, nil, api.OK)
		none, e := survey.OddPairs(others)
		want(t, "OddPairs "+what, none, e, "[]", api.OK)
		found += len(odd)
	}
	if found < 1000 {
		t.Errorf("too few odd pairs are tested: %d", found)
	}
}
