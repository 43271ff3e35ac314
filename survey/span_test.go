package survey_test

import (
	"fmt"
	"math"
	"slices"
	"testing"

	"moonpool/api"
	"moonpool/survey"
)

// P9.1 (GapAt, SpansIn, PossibleIn), P9.8 (gaps and spans)

func TestGapAt(t *testing.T) {
	for i, gap := range []api.Range{spanOf(-10, -7), spanOf(4, 7), spanOf(-2, 3)} {
		r, e := survey.GapAt(exampleStations(), 4, i)
		want(t, fmt.Sprint("GapAt ", i), r, e, gap, api.OK)
	}
	widest := []api.SurveyStation{stationOf(0, -10000, 10000, -10000, 10000)}
	for _, c := range []struct {
		name        string
		stations    []api.SurveyStation
		pipe, index int
		gap         api.Range
		err         api.Errno
	}{
		{"the thinnest pipe", widest, 1, 0, spanOf(-20001, 19999), api.OK},
		{"the thickest pipe", widest, 1000, 0, spanOf(-21000, 19000), api.OK},
		{"no pipe", widest, 0, 0, api.Range{}, api.ErrRange},
		{"a pipe below 0", widest, -4, 0, api.Range{}, api.ErrRange},
		{"too thick a pipe", widest, 1001, 0, api.Range{}, api.ErrRange},
		{"the least int", widest, math.MinInt, 0, api.Range{}, api.ErrRange},
		{"a pipe before a station", widest, 0, 1, api.Range{}, api.ErrRange},
		{"no such station", widest, 4, 1, api.Range{}, api.ErrMissing},
		{"the station -1", widest, 4, -1, api.Range{}, api.ErrMissing},
		{"no stations", nil, 4, 0, api.Range{}, api.ErrMissing},
	} {
		r, e := survey.GapAt(c.stations, c.pipe, c.index)
		want(t, "GapAt: "+c.name, r, e, c.gap, c.err)
	}
}

// withGaps are stations under whose pipe of 1 these are the gaps.
func withGaps(gaps ...api.Range) []api.SurveyStation {
	var l []api.SurveyStation
	for i, gap := range gaps {
		l = append(l, stationOf(i*10, 1, 1, -gap.Hi, -gap.Lo))
	}
	return l
}

func TestSpans(t *testing.T) {
	no, maybe, yes := spanOf(-5, 0), spanOf(0, 3), spanOf(1, 2)
	for _, c := range []struct {
		name           string
		stations       []api.SurveyStation
		pipe           int
		sure, possible []api.Range
		err            api.Errno
	}{
		{"example 2", exampleStations(), 4, []api.Range{spanOf(1, 1)}, []api.Range{spanOf(1, 2)}, api.OK},
		{"a thicker pipe", exampleStations(), 11, nil, nil, api.OK},
		{"a pipe between both", exampleStations(), 8, nil, []api.Range{spanOf(1, 1)}, api.OK},
		{"a gap of exactly 0", withGaps(spanOf(0, 0)), 1, nil, nil, api.OK},
		{"ends of exactly 0", withGaps(no, maybe), 1, nil, []api.Range{spanOf(1, 1)}, api.OK},
		{"all", withGaps(yes, yes, yes), 1, []api.Range{spanOf(0, 2)}, []api.Range{spanOf(0, 2)}, api.OK},
		{"none", withGaps(no, no, no), 1, nil, nil, api.OK},
		{"several", withGaps(yes, no, maybe, yes, yes, no, no, yes), 1, []api.Range{spanOf(0, 0), spanOf(3, 4), spanOf(7, 7)}, []api.Range{spanOf(0, 0), spanOf(2, 4), spanOf(7, 7)}, api.OK},
		{"the last one is none", withGaps(yes, yes, no), 1, []api.Range{spanOf(0, 1)}, []api.Range{spanOf(0, 1)}, api.OK},
		{"no stations", nil, 4, nil, nil, api.OK},
		{"no pipe", exampleStations(), 0, nil, nil, api.ErrRange},
		{"too thick a pipe", exampleStations(), 1001, nil, nil, api.ErrRange},
		{"no stations and no pipe", nil, 0, nil, nil, api.ErrRange},
	} {
		l, e := survey.SpansIn(c.stations, c.pipe)
		want(t, "SpansIn: "+c.name, l, e, c.sure, c.err)
		l, e = survey.PossibleIn(c.stations, c.pipe)
		want(t, "PossibleIn: "+c.name, l, e, c.possible, c.err)
	}
}

// longest are the largest ranges of neighbouring numbers from low to high that are such, found among all ranges.
func longest(low, high int, isSuch func(n int) bool) []api.Range {
	such := func(n int) bool { return low <= n && n <= high && isSuch(n) }
	var all []api.Range
	for from := low; from <= high; from++ {
		to := from
		for such(to) {
			to++
		}
		if to > from && !such(from-1) {
			all = append(all, spanOf(from, to-1))
		}
	}
	return all
}

func isPart(r api.Range, of []api.Range) bool {
	return slices.ContainsFunc(of, func(x api.Range) bool { return x.Lo <= r.Lo && r.Hi <= x.Hi })
}

// TestSpansOfTrueHeights takes all true heights that the ranges permit: a station is in a sure span if all of them leave a gap, and in a possible one if some of them do.
func TestSpansOfTrueHeights(t *testing.T) {
	r := newRandom()
	found := 0
	for range 500 {
		var l []api.SurveyStation
		for _, at := range positions(r, r.IntN(21)) {
			l = append(l, randomStation(r, at, 6))
		}
		pipe := between(r, 1, 5)
		count, free := make([]int, len(l)), make([]int, len(l))
		for i, s := range l {
			var gaps []int
			heights(s, func(top, bed int) {
				gap := top - pipe - bed
				gaps = append(gaps, gap)
				if gap > 0 {
					free[i]++
				}
			})
			count[i] = len(gaps)
			gap, e := survey.GapAt(l, pipe, i)
			want(t, fmt.Sprint("GapAt ", pipe, i, l), gap, e, spanOf(slices.Min(gaps), slices.Max(gaps)), api.OK)
		}
		sure, e := survey.SpansIn(l, pipe)
		want(t, fmt.Sprint("SpansIn ", pipe, l), sure, e, longest(0, len(l)-1, func(i int) bool { return free[i] == count[i] }), api.OK)
		possible, e := survey.PossibleIn(l, pipe)
		want(t, fmt.Sprint("PossibleIn ", pipe, l), possible, e, longest(0, len(l)-1, func(i int) bool { return free[i] > 0 }), api.OK)
		found += len(sure)
	}
	if found < 200 {
		t.Errorf("too few sure spans are tested: %d", found)
	}
}

// TestSpansInOthers is whether each sure span lies in a possible one, and each span of a pipe in one of a thinner pipe.
func TestSpansInOthers(t *testing.T) {
	r := newRandom()
	found := 0
	for range 2000 {
		l := randomStations(r, 20)
		pipe := []int{between(r, 2, 20), between(r, 2, 1000)}[r.IntN(2)]
		thinner := between(r, 1, pipe-1)
		sure, _ := survey.SpansIn(l, pipe)
		possible, _ := survey.PossibleIn(l, pipe)
		thinSure, _ := survey.SpansIn(l, thinner)
		thinPossible, _ := survey.PossibleIn(l, thinner)
		for _, s := range sure {
			if !isPart(s, possible) || !isPart(s, thinSure) {
				t.Errorf("%v with %d: %v is in none of %v, or with %d in none of %v", l, pipe, s, possible, thinner, thinSure)
			}
			found++
		}
		for _, s := range possible {
			if !isPart(s, thinPossible) {
				t.Errorf("%v with %d: %v is with %d in none of %v", l, pipe, s, thinner, thinPossible)
			}
		}
	}
	if found < 1000 {
		t.Errorf("too few sure spans are tested: %d", found)
	}
}
