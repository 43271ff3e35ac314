package survey

import (
	"iter"
	"math"
	"slices"

	"moonpool/api"
	"moonpool/rules"
)

// TravelOf is in P9.5.
func TravelOf(l []api.SurveyLine, runs []api.SurveyRun) (int, api.Errno) {
	if e := linesError(l); e != api.OK {
		return 0, e
	}
	if len(runs) != len(l) {
		return 0, api.ErrShape
	}
	distinctError := rules.DistinctErrors(len(l))
	_, e := rules.FirstBad(runs, func(r api.SurveyRun) api.Errno { return distinctError(r.Line) })
	if e != api.OK {
		return 0, e
	}
	return travel(l, runs), api.OK
}

// BestRuns is in P9.5.
func BestRuns(l []api.SurveyLine) ([]api.SurveyRun, int, api.Errno) {
	if e := linesError(l); e != api.OK {
		return nil, 0, e
	}
	var best []api.SurveyRun
	least := 0
	for runs := range runsOf(l) {
		if n := travel(l, runs); best == nil || n < least {
			best, least = runs, n
		}
	}
	return best, least, api.OK
}

// BoundOf is in P9.5. A tree that grows by the nearest line has the minimum sum.
func BoundOf(l []api.SurveyLine) (int, api.Errno) {
	if e := linesError(l); e != api.OK {
		return 0, e
	}
	bound := 0
	for joined := rules.SetOf(0); joined.Size() < len(l); {
		line, least := nearest(l, joined)
		joined = joined.With(line)
		bound += least
	}
	return bound, api.OK
}

func linesError(l []api.SurveyLine) api.Errno {
	_, e := rules.CheckList(l, 1, api.MaxSurveyLines, func(x api.SurveyLine) api.Errno {
		return rules.FirstError(placeError(x.From), placeError(x.To))
	})
	return e
}

// runsOf yields all runs of lines, in lexicographic order.
func runsOf(l []api.SurveyLine) iter.Seq[[]api.SurveyRun] {
	return func(yield func(runs []api.SurveyRun) bool) { yieldRuns(l, nil, yield) }
}

// yieldRuns yields all runs of lines that begin with some. It is false if no more are wanted.
func yieldRuns(l []api.SurveyLine, begun []api.SurveyRun, yield func(runs []api.SurveyRun) bool) bool {
	if len(begun) == len(l) {
		return yield(begun)
	}
	for line := range len(l) {
		if slices.ContainsFunc(begun, func(r api.SurveyRun) bool { return r.Line == line }) {
			continue
		}
		for _, back := range []bool{false, true} {
			if !yieldRuns(l, append(slices.Clone(begun), api.SurveyRun{Line: line, Back: back}), yield) {
				return false
			}
		}
	}
	return true
}

// travel is that of valid runs.
func travel(l []api.SurveyLine, runs []api.SurveyRun) int {
	sum := 0
	for i := range len(runs) - 1 {
		_, end := way(l, runs[i])
		begin, _ := way(l, runs[i+1])
		sum += distance(end, begin)
	}
	return sum
}

// way is the beginning and the end of a run.
func way(l []api.SurveyLine, r api.SurveyRun) (begin, end [2]int) {
	x := l[r.Line]
	if r.Back {
		return x.To, x.From
	}
	return x.From, x.To
}

// distance is that of two points.
func distance(p, q [2]int) int {
	return max(p[0]-q[0], q[0]-p[0], p[1]-q[1], q[1]-p[1])
}

// nearest is the line that is nearest to lines that are joined, of those that are not, and its distance from them.
func nearest(l []api.SurveyLine, joined rules.Set) (line, least int) {
	least = math.MaxInt
	for i := range len(l) {
		if n := distanceFrom(l, i, joined); !joined.Has(i) && n < least {
			line, least = i, n
		}
	}
	return line, least
}

// distanceFrom is the distance of a line from the nearest one of those that are joined.
func distanceFrom(l []api.SurveyLine, line int, joined rules.Set) int {
	least := math.MaxInt
	for _, k := range joined.Members() {
		least = min(least, lineDistance(l[line], l[k]))
	}
	return least
}

// lineDistance is the distance of two lines.
func lineDistance(a, b api.SurveyLine) int {
	return min(distance(a.From, b.From), distance(a.From, b.To), distance(a.To, b.From), distance(a.To, b.To))
}
