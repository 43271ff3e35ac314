package survey_test

import (
	"fmt"
	"math/big"
	"math/rand/v2"
	"slices"
	"testing"

	"moonpool/api"
	"moonpool/survey"
)

// want compares a result and an error. Results are compared as they are printed: a nil slice and an empty one are the same result.
func want(t *testing.T, what string, got any, e api.Errno, wanted any, err api.Errno) {
	t.Helper()
	if fmt.Sprint(got) != fmt.Sprint(wanted) || e != err {
		t.Errorf("%s: %v, error %d, want %v, error %d", what, got, e, wanted, err)
	}
}

func spanOf(lo, hi int) api.Range { return api.Range{Lo: lo, Hi: hi} }

func has(r api.Range, n int) bool { return r.Lo <= n && n <= r.Hi }

func ratio(num, den int) *big.Rat { return big.NewRat(int64(num), int64(den)) }

// stationOf is At, both ends of Top, and both ends of Bed.
func stationOf(at, topLo, topHi, bedLo, bedHi int) api.SurveyStation {
	return api.SurveyStation{At: at, Top: spanOf(topLo, topHi), Bed: spanOf(bedLo, bedHi)}
}

// featureOf is both ends of At, Kind, and both ends of Size.
func featureOf(lo, hi, kind, least, most int) api.SurveyFeature {
	return api.SurveyFeature{At: spanOf(lo, hi), Kind: kind, Size: spanOf(least, most)}
}

func lineOf(x, y, toX, toY int) api.SurveyLine {
	return api.SurveyLine{From: [2]int{x, y}, To: [2]int{toX, toY}}
}

func pairOf(first, second api.Range) api.SurveyPair {
	return api.SurveyPair{First: first, Second: second}
}

func recordOf(vessel string, s api.SurveyStation) api.SurveyRecord {
	return api.SurveyRecord{Vessel: vessel, Station: s}
}

// exampleStations are the stations p of the chapter's examples.
func exampleStations() []api.SurveyStation {
	return []api.SurveyStation{stationOf(0, -10, -8, -5, -4), stationOf(100, -10, -9, -20, -18), stationOf(200, -11, -9, -16, -13)}
}

// exampleRoutes are both routes of example 3 that have three corners.
func exampleRoutes() (a, b [][2]int) {
	return [][2]int{{0, 0}, {10, 0}, {10, 10}}, [][2]int{{5, -5}, {5, 5}, {15, 5}}
}

// exampleSwaths are those of example 4.
func exampleSwaths() []api.Range { return []api.Range{spanOf(0, 10), spanOf(5, 20), spanOf(30, 40)} }

// exampleFeatures are the features a and b of example 5.
func exampleFeatures() (a, b []api.SurveyFeature) {
	a = []api.SurveyFeature{featureOf(0, 2, 0, 3, 4), featureOf(10, 11, 2, 5, 6)}
	b = []api.SurveyFeature{featureOf(1, 3, 0, 3, 5), featureOf(14, 15, 2, 8, 9), featureOf(20, 20, 1, 1, 1)}
	return a, b
}

// exampleMatch is the best one of these features with the number 5.
func exampleMatch() api.SurveyMatch {
	return api.SurveyMatch{Pairs: [][2]int{{0, 0}, {1, 1}}, Potentials: [][]int{{0, 5, 10, 15}, {5, 0, 5, 10}, {10, 5, 3, 8}}}
}

// examplePairs are those of example 7 that a shift fits, oddPair is the one that none of these shifts fits.
func examplePairs() []api.SurveyPair {
	return []api.SurveyPair{pairOf(spanOf(10, 12), spanOf(8, 9)), pairOf(spanOf(20, 21), spanOf(15, 18))}
}

func oddPair() api.SurveyPair { return pairOf(spanOf(5, 5), spanOf(9, 9)) }

// exampleLines are those of example 8, exampleRuns their best runs.
func exampleLines() []api.SurveyLine {
	return []api.SurveyLine{lineOf(0, 0, 10, 0), lineOf(0, 2, 10, 2), lineOf(0, 4, 10, 4)}
}

func exampleRuns() []api.SurveyRun {
	return []api.SurveyRun{{Line: 0}, {Line: 1, Back: true}, {Line: 2}}
}

// exampleRecords are those of example 9.
func exampleRecords() []api.SurveyRecord {
	return []api.SurveyRecord{recordOf("ann", exampleStations()[0]), recordOf("bob", stationOf(0, -9, -7, -5, -3))}
}

func newRandom() *rand.Rand { return rand.New(rand.NewPCG(9, 9)) }

// between is a random number from low to high.
func between(r *rand.Rand, low, high int) int { return low + r.IntN(high-low+1) }

// randomRange is a random range with ends from low to high, often a short one.
func randomRange(r *rand.Rand, low, high int) api.Range {
	lo := between(r, low, high)
	if r.IntN(3) == 0 {
		return spanOf(lo, between(r, lo, high))
	}
	return spanOf(lo, min(high, lo+r.IntN(4)))
}

// positions are so many different numbers, ascending, of which some are neighbours.
func positions(r *rand.Rand, count int) []int {
	l := make([]int, count)
	at := r.IntN(20)
	for i := range l {
		l[i] = at
		at += []int{1, 1, between(r, 1, 12), between(r, 1, 3000)}[r.IntN(4)]
	}
	return l
}

// randomStation is a valid one, with heights that are at most high in size.
func randomStation(r *rand.Rand, at, high int) api.SurveyStation {
	return api.SurveyStation{At: at, Top: randomRange(r, -high, high), Bed: randomRange(r, -high, high)}
}

func randomStations(r *rand.Rand, most int) []api.SurveyStation {
	high := []int{5, 20, 10000}[r.IntN(3)]
	var l []api.SurveyStation
	for _, at := range positions(r, r.IntN(most+1)) {
		l = append(l, randomStation(r, at, high))
	}
	return l
}

// randomRoute is a valid one in a small field, so that it often crosses others at their corners.
func randomRoute(r *rand.Rand) [][2]int {
	size := []int{2, 5, 200}[r.IntN(3)]
	var l [][2]int
	for count := between(r, 2, 8); len(l) < count; {
		p := [2]int{between(r, -size, size), between(r, -size, size)}
		if len(l) == 0 || l[len(l)-1] != p {
			l = append(l, p)
		}
	}
	return l
}

func randomSwaths(r *rand.Rand, high int) []api.Range {
	l := make([]api.Range, r.IntN(13))
	for i := range l {
		l[i] = randomRange(r, 0, high)
	}
	return l
}

// randomFeatures are valid ones of few kinds, sometimes with the same beginnings.
func randomFeatures(r *rand.Rand, most int) []api.SurveyFeature {
	l := make([]api.SurveyFeature, between(r, r.IntN(most+1), most))
	kinds := []int{1, 1, 2, api.SurveyKinds}[r.IntN(4)]
	at := r.IntN(5)
	for i := range l {
		l[i] = api.SurveyFeature{At: spanOf(at, at+r.IntN(6)), Kind: r.IntN(kinds), Size: randomRange(r, 0, 9)}
		at += r.IntN(8)
	}
	return l
}

// randomSkip is often a number with which some pairs cost as much as none.
func randomSkip(r *rand.Rand) int { return []int{0, 1, 1, 2, 2, 3, 5, 9, 100000}[r.IntN(9)] }

func randomPairs(r *rand.Rand, most int) []api.SurveyPair {
	high := []int{3, 12, 40}[r.IntN(3)]
	l := make([]api.SurveyPair, between(r, 1, most))
	for i := range l {
		l[i] = pairOf(randomRange(r, -high, high), randomRange(r, -high, high))
	}
	return l
}

func randomLines(r *rand.Rand, most int) []api.SurveyLine {
	size := []int{1, 6, 200}[r.IntN(3)]
	part := func() int { return between(r, -size, size) }
	l := make([]api.SurveyLine, between(r, 1, most))
	for i := range l {
		l[i] = lineOf(part(), part(), part(), part())
	}
	return l
}

// randomRuns are valid ones of so many lines.
func randomRuns(r *rand.Rand, count int) []api.SurveyRun {
	var runs []api.SurveyRun
	for _, line := range r.Perm(count) {
		runs = append(runs, api.SurveyRun{Line: line, Back: r.IntN(2) == 0})
	}
	return runs
}

// randomRecords are valid ones of few positions, whose ranges often have something in common.
func randomRecords(r *rand.Rand) []api.SurveyRecord {
	names := []string{"ann", "bob", "C-3"}
	l := make([]api.SurveyRecord, r.IntN([]int{6, 15, 41}[r.IntN(3)]))
	high, wide, rarely := between(r, 1, 8), between(r, 4, 30), between(r, 5, 200)
	random := func() api.Range {
		lo, hi := -r.IntN(wide), r.IntN(wide)
		if r.IntN(rarely) == 0 {
			lo = hi
		}
		return spanOf(lo, hi)
	}
	for i := range l {
		l[i] = recordOf(names[r.IntN(3)], api.SurveyStation{At: r.IntN(high), Top: random(), Bed: random()})
	}
	return l
}

// sets are all sets of the numbers below count, the smaller ones first, those of one size in lexicographic order.
func sets(count int) [][]int {
	all := [][]int{{}}
	for done := 0; done < len(all); done++ {
		least := 0
		if n := len(all[done]); n > 0 {
			least = all[done][n-1] + 1
		}
		for n := least; n < count; n++ {
			all = append(all, append(slices.Clone(all[done]), n))
		}
	}
	return all
}

func TestExamplesAndRandomOnesAreValid(t *testing.T) {
	want(t, "sets", sets(3), api.OK, "[[] [0] [1] [2] [0 1] [0 2] [1 2] [0 1 2]]", api.OK)
	i, e := survey.CheckStations(exampleStations())
	want(t, "CheckStations of the example", i, e, 0, api.OK)
	a, b := exampleFeatures()
	n, e := survey.CheckMatch(a, b, 5, exampleMatch())
	want(t, "CheckMatch of the example", n, e, 8, api.OK)
	r := newRandom()
	for range 1000 {
		l, f := randomStations(r, 20), randomFeatures(r, 8)
		i, e := survey.CheckStations(l)
		want(t, fmt.Sprint("CheckStations of ", l), i, e, 0, api.OK)
		i, e = survey.CheckFeatures(f)
		want(t, fmt.Sprint("CheckFeatures of ", f), i, e, 0, api.OK)
	}
}
