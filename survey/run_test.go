package survey_test

import (
	"fmt"
	"math"
	"slices"
	"testing"

	"moonpool/api"
	"moonpool/survey"
)

// P9.5, P9.15

func TestTravelOf(t *testing.T) {
	lines := exampleLines()
	run := func(line int) api.SurveyRun { return api.SurveyRun{Line: line} }
	back := func(line int) api.SurveyRun { return api.SurveyRun{Line: line, Back: true} }
	wide := []api.SurveyLine{lineOf(-200, -200, 200, 200), lineOf(-200, -200, 200, 200), lineOf(-200, -200, 200, 200), lineOf(-200, -200, 200, 200), lineOf(-200, -200, 200, 200)}
	for _, c := range []struct {
		name   string
		lines  []api.SurveyLine
		runs   []api.SurveyRun
		travel int
		err    api.Errno
	}{
		{"example 8", lines, exampleRuns(), 4, api.OK},
		{"in one direction", lines, []api.SurveyRun{run(0), run(1), run(2)}, 20, api.OK},
		{"in another order", lines, []api.SurveyRun{back(2), run(0), back(1)}, 6, api.OK},
		{"back alone", lines, []api.SurveyRun{back(0), back(1), back(2)}, 20, api.OK},
		{"a single line", lines[:1], []api.SurveyRun{run(0)}, 0, api.OK},
		{"a single line back", lines[:1], []api.SurveyRun{back(0)}, 0, api.OK},
		{"the greater difference in Y", []api.SurveyLine{lineOf(0, 0, 1, 1), lineOf(3, -6, 9, 9)}, []api.SurveyRun{run(0), run(1)}, 7, api.OK},
		{"the greater difference in X", []api.SurveyLine{lineOf(0, 0, 1, 1), lineOf(-9, -6, 9, 9)}, []api.SurveyRun{run(0), run(1)}, 10, api.OK},
		{"lines that are points", []api.SurveyLine{lineOf(1, 1, 1, 1), lineOf(1, 1, 1, 1)}, []api.SurveyRun{run(1), back(0)}, 0, api.OK},
		{"the greatest travel", wide, []api.SurveyRun{run(0), run(1), run(2), run(3), run(4)}, 1600, api.OK},
		{"too few runs", lines, exampleRuns()[:2], 0, api.ErrShape},
		{"no runs", lines, nil, 0, api.ErrShape},
		{"too many runs", lines, append(exampleRuns(), run(0)), 0, api.ErrShape},
		{"very many runs", lines, make([]api.SurveyRun, 100000), 0, api.ErrShape},
		{"no such line", lines, []api.SurveyRun{run(0), run(1), run(3)}, 0, api.ErrMissing},
		{"the line -1", lines, []api.SurveyRun{run(-1), run(0), run(1)}, 0, api.ErrMissing},
		{"the least line", lines, []api.SurveyRun{run(math.MinInt), run(0), run(1)}, 0, api.ErrMissing},
		{"a line twice", lines, []api.SurveyRun{run(0), run(1), run(0)}, 0, api.ErrDouble},
		{"a line twice, once back", lines, []api.SurveyRun{run(2), back(2), run(0)}, 0, api.ErrDouble},
		{"twice before missing in the next run", lines, []api.SurveyRun{run(1), run(1), run(3)}, 0, api.ErrDouble},
		{"missing before twice in the next run", lines, []api.SurveyRun{run(1), run(3), run(1)}, 0, api.ErrMissing},
		{"missing twice", lines, []api.SurveyRun{run(3), run(3), run(3)}, 0, api.ErrMissing},
		{"no lines and no runs", nil, nil, 0, api.ErrShape},
	} {
		n, e := survey.TravelOf(c.lines, c.runs)
		want(t, "TravelOf: "+c.name, n, e, c.travel, c.err)
	}
}

func TestBestRuns(t *testing.T) {
	point := lineOf(3, 3, 3, 3)
	for _, c := range []struct {
		name   string
		lines  []api.SurveyLine
		runs   []api.SurveyRun
		travel int
		bound  int
	}{
		{"example 8", exampleLines(), exampleRuns(), 4, 4},
		{"a single line", exampleLines()[:1], []api.SurveyRun{{}}, 0, 0},
		{"two lines", exampleLines()[:2], []api.SurveyRun{{Line: 0}, {Line: 1, Back: true}}, 2, 2},
		{"points", []api.SurveyLine{point, point, point}, []api.SurveyRun{{Line: 0}, {Line: 1}, {Line: 2}}, 0, 0},
		{"the second line before the first one", []api.SurveyLine{lineOf(10, 0, 20, 0), lineOf(0, 0, 9, 0), lineOf(21, 0, 30, 0)}, []api.SurveyRun{{Line: 1}, {Line: 0}, {Line: 2}}, 2, 2},
		{"the first line back", []api.SurveyLine{lineOf(0, 0, 10, 0), lineOf(-1, 0, -9, 0)}, []api.SurveyRun{{Line: 0, Back: true}, {Line: 1}}, 1, 1},
		{"a star, whose bound is less", []api.SurveyLine{lineOf(0, 0, 0, 0), lineOf(2, 0, 9, 0), lineOf(-2, 0, -9, 0), lineOf(0, 2, 0, 9)}, []api.SurveyRun{{Line: 0}, {Line: 1}, {Line: 3, Back: true}, {Line: 2}}, 13, 6},
	} {
		runs, n, e := survey.BestRuns(c.lines)
		want(t, "BestRuns: "+c.name, runs, e, c.runs, api.OK)
		want(t, "the travel: "+c.name, n, e, c.travel, api.OK)
		n, e = survey.TravelOf(c.lines, runs)
		want(t, "TravelOf: "+c.name, n, e, c.travel, api.OK)
		n, e = survey.BoundOf(c.lines)
		want(t, "BoundOf: "+c.name, n, e, c.bound, api.OK)
	}
}

func TestErrorsOfLines(t *testing.T) {
	fine := lineOf(-200, 200, 200, -200)
	for _, c := range []struct {
		name  string
		lines []api.SurveyLine
		err   api.Errno
	}{
		{"none", nil, api.ErrShape},
		{"too many", slices.Repeat([]api.SurveyLine{fine}, 6), api.ErrLarge},
		{"too many bad ones", slices.Repeat([]api.SurveyLine{lineOf(201, 0, 0, 0)}, 6), api.ErrLarge},
		{"From too great in X", []api.SurveyLine{fine, lineOf(201, 0, 0, 0)}, api.ErrRange},
		{"From too small in Y", []api.SurveyLine{lineOf(0, -201, 0, 0)}, api.ErrRange},
		{"To too small in X", []api.SurveyLine{lineOf(0, 0, math.MinInt, 0)}, api.ErrRange},
		{"To too great in Y", []api.SurveyLine{fine, fine, lineOf(0, 0, 0, math.MaxInt)}, api.ErrRange},
	} {
		n, e := survey.TravelOf(c.lines, []api.SurveyRun{{Line: 9}})
		want(t, "TravelOf: "+c.name, n, e, 0, c.err)
		runs, n, e := survey.BestRuns(c.lines)
		want(t, "BestRuns: "+c.name, runs, e, "[]", c.err)
		want(t, "the travel: "+c.name, n, e, 0, c.err)
		n, e = survey.BoundOf(c.lines)
		want(t, "BoundOf: "+c.name, n, e, 0, c.err)
	}
	most := slices.Repeat([]api.SurveyLine{fine}, 5)
	runs, n, e := survey.BestRuns(most)
	want(t, "BestRuns of as many as possible", runs, e, "[{0 false} {1 true} {2 false} {3 true} {4 false}]", api.OK)
	want(t, "their travel", n, e, 0, api.OK)
}

// allRuns are all runs of so many lines, in lexicographic order.
func allRuns(count int) [][]api.SurveyRun {
	all := [][]api.SurveyRun{nil}
	for range count {
		var longer [][]api.SurveyRun
		for _, runs := range all {
			for i := range 2 * count {
				next := api.SurveyRun{Line: i / 2, Back: i%2 == 1}
				if !slices.ContainsFunc(runs, func(r api.SurveyRun) bool { return r.Line == next.Line }) {
					longer = append(longer, append(slices.Clone(runs), next))
				}
			}
		}
		all = longer
	}
	return all
}

// travelOf goes from run to run.
func travelOf(lines []api.SurveyLine, runs []api.SurveyRun) int {
	sum := 0
	var at [2]int
	for i, r := range runs {
		x := lines[r.Line]
		if r.Back {
			x.From, x.To = x.To, x.From
		}
		if i > 0 {
			sum += apart(at, x.From)
		}
		at = x.To
	}
	return sum
}

// apart is the distance of two points, in single steps along X, Y, or both.
func apart(p, q [2]int) int {
	steps := 0
	for ; p != q; steps++ {
		for i := range p {
			switch {
			case p[i] < q[i]:
				p[i]++
			case p[i] > q[i]:
				p[i]--
			}
		}
	}
	return steps
}

// TestNoRunsTravelLess compares the best runs with all runs.
func TestNoRunsTravelLess(t *testing.T) {
	r := newRandom()
	everything := map[int][][]api.SurveyRun{}
	for count := range 4 {
		everything[count+1] = allRuns(count + 1)
	}
	equal, less := 0, 0
	for range 300 {
		lines := randomLines(r, 4)
		what := fmt.Sprint(lines)
		var best []api.SurveyRun
		least := math.MaxInt
		for _, runs := range everything[len(lines)] {
			if n := travelOf(lines, runs); n < least {
				best, least = runs, n
			}
		}
		runs, n, e := survey.BestRuns(lines)
		want(t, "BestRuns "+what, runs, e, best, api.OK)
		want(t, "the travel of "+what, n, e, least, api.OK)
		bound, e := survey.BoundOf(lines)
		want(t, "BoundOf "+what, bound, e, boundOf(lines), api.OK)
		switch {
		case bound > least:
			t.Errorf("%s: the bound is %d, but the travel %d", what, bound, least)
		case bound == least:
			equal++
		default:
			less++
		}
		some := randomRuns(r, len(lines))
		n, e = survey.TravelOf(lines, some)
		want(t, fmt.Sprint("TravelOf ", what, some), n, e, travelOf(lines, some), api.OK)
	}
	if equal < 50 || less < 50 {
		t.Errorf("too few bounds of one kind are tested: %d equal, %d less", equal, less)
	}
}

// boundOf takes all sets of joints between two lines, one less than there are lines, that join all of them.
func boundOf(lines []api.SurveyLine) int {
	var joints [][3]int // two lines, and their distance
	for i, x := range lines {
		for j, y := range lines[:i] {
			joints = append(joints, [3]int{i, j, min(apart(x.From, y.From), apart(x.From, y.To), apart(x.To, y.From), apart(x.To, y.To))})
		}
	}
	least := math.MaxInt
	for _, set := range sets(len(joints)) {
		if len(set) != len(lines)-1 {
			continue
		}
		joined, sum := []int{0}, 0
		for range set {
			for _, k := range set {
				x := joints[k]
				for _, line := range x[:2] {
					if slices.Contains(joined, x[0]) != slices.Contains(joined, x[1]) && !slices.Contains(joined, line) {
						joined = append(joined, line)
					}
				}
			}
		}
		for _, k := range set {
			sum += joints[k][2]
		}
		if len(joined) == len(lines) {
			least = min(least, sum)
		}
	}
	return least
}

// TestRunsOfMostLines takes five lines.
func TestRunsOfMostLines(t *testing.T) {
	r := newRandom()
	for range 50 {
		lines := make([]api.SurveyLine, 5)
		for i := range lines {
			lines[i] = randomLines(r, 1)[0]
		}
		runs, n, e := survey.BestRuns(lines)
		what := fmt.Sprint("BestRuns ", lines)
		want(t, what, n, e, travelOf(lines, runs), api.OK)
		bound, e := survey.BoundOf(lines)
		want(t, "the bound of "+what, bound, e, boundOf(lines), api.OK)
		for range 200 {
			some := randomRuns(r, 5)
			if other := travelOf(lines, some); other < n || other < bound {
				t.Errorf("%s: %v travel %d, the bound is %d, but %v travel %d", what, runs, n, bound, some, other)
			}
		}
	}
}
