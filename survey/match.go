package survey

import (
	"math"
	"slices"

	"moonpool/api"
	"moonpool/rules"
)

// mostPotential is the greatest potential.
const mostPotential = api.MaxSurveySkip * 32

// surveys are the features of two surveys, and what each of them costs that is in no pair.
type surveys struct {
	first, second []api.SurveyFeature
	skip          int
}

// MatchOf is in P9.3.
func MatchOf(a, b []api.SurveyFeature, skip int) (api.SurveyMatch, int, api.Errno) {
	x, e := newSurveys(a, b, skip)
	if e != api.OK {
		return api.SurveyMatch{}, 0, e
	}
	m := api.SurveyMatch{Pairs: x.bestPairs(), Potentials: x.potentials()}
	return m, x.cost(m.Pairs), api.OK
}

// CheckMatch is in P9.3.
func CheckMatch(a, b []api.SurveyFeature, skip int, m api.SurveyMatch) (int, api.Errno) {
	x, e := newSurveys(a, b, skip)
	if e != api.OK {
		return 0, e
	}
	if e := rules.FirstError(x.pairsError(m.Pairs), x.potentialsError(m.Potentials)); e != api.OK {
		return 0, e
	}
	cost := x.cost(m.Pairs)
	if m.Potentials[len(a)][len(b)] != cost {
		return 0, api.ErrClash
	}
	return cost, api.OK
}

// newSurveys is for any surveys, whose error it finds.
func newSurveys(a, b []api.SurveyFeature, skip int) (surveys, api.Errno) {
	e := rules.FirstError(featuresError(a), featuresError(b), rules.LimitError(skip, 0, api.MaxSurveySkip))
	if e != api.OK {
		return surveys{}, e
	}
	return surveys{first: a, second: b, skip: skip}, api.OK
}

func (x surveys) pairsError(pairs [][2]int) api.Errno {
	firstError, secondError := rules.RisingErrors(), rules.RisingErrors()
	_, e := rules.FirstBad(pairs, func(p [2]int) api.Errno {
		e := rules.FirstError(
			rules.IndexError(p[0], len(x.first)),
			rules.IndexError(p[1], len(x.second)),
			firstError(p[0]),
			secondError(p[1]),
		)
		if e == api.OK && !x.areAlike(p[0], p[1]) {
			return api.ErrKind
		}
		return e
	})
	return e
}

// potentialsError is the error of any potentials.
func (x surveys) potentialsError(rows [][]int) api.Errno {
	if len(rows) != len(x.first)+1 {
		return api.ErrShape
	}
	_, shapeError := rules.FirstBad(rows, func(row []int) api.Errno {
		if len(row) != len(x.second)+1 {
			return api.ErrShape
		}
		return api.OK
	})
	_, rangeError := rules.FirstBad(rows, func(row []int) api.Errno { return rules.LimitsError(0, mostPotential, row...) })
	if e := rules.FirstError(shapeError, rangeError); e != api.OK {
		return e
	}
	for i, row := range rows {
		for j, n := range row {
			if n > x.mostAt(rows, i, j) {
				return api.ErrProof
			}
		}
	}
	return api.OK
}

// potentials are those of the best match.
func (x surveys) potentials() [][]int {
	rows := make([][]int, len(x.first)+1)
	for i := range rows {
		rows[i] = make([]int, len(x.second)+1)
		for j := range rows[i] {
			rows[i][j] = x.mostAt(rows, i, j)
		}
	}
	return rows
}

// mostAt is how great a potential may be after those before it. None is below 0, so that the first one is 0 if it is not greater.
func (x surveys) mostAt(rows [][]int, i, j int) int {
	if i == 0 && j == 0 {
		return 0
	}
	most := math.MaxInt
	if i > 0 {
		most = min(most, rows[i-1][j]+x.skip)
	}
	if j > 0 {
		most = min(most, rows[i][j-1]+x.skip)
	}
	if i > 0 && j > 0 && x.areAlike(i-1, j-1) {
		most = min(most, rows[i-1][j-1]+x.distance(i-1, j-1))
	}
	return most
}

// bestPairs are the pairs of the best match.
func (x surveys) bestPairs() [][2]int {
	costs := x.reversed().potentials() // by how many features are left of both surveys
	var pairs [][2]int
	i, j := 0, 0
	for {
		next, ok := x.firstPair(costs, i, j)
		if !ok {
			return pairs
		}
		pairs = append(pairs, next)
		i, j = next[0]+1, next[1]+1
	}
}

// firstPair is the first pair of the best match of the features from i and from j on, or false if this has none.
// It is given the minimum costs of matches of the features that are left, by how many there are of both surveys.
func (x surveys) firstPair(costs [][]int, i, j int) ([2]int, bool) {
	a, b := len(x.first), len(x.second)
	least := costs[a-i][b-j]
	if least == x.skip*(a-i+b-j) {
		return [2]int{}, false
	}
	for p := i; p < a; p++ {
		for q := j; q < b; q++ {
			skipped, left := x.skip*(p-i+q-j), costs[a-p-1][b-q-1]
			if x.areAlike(p, q) && skipped+x.distance(p, q)+left == least {
				return [2]int{p, q}, true
			}
		}
	}
	return [2]int{}, false
}

// reversed are the surveys from their ends on.
func (x surveys) reversed() surveys {
	first, second := slices.Clone(x.first), slices.Clone(x.second)
	slices.Reverse(first)
	slices.Reverse(second)
	return surveys{first: first, second: second, skip: x.skip}
}

// areAlike is whether a feature of the first survey and one of the second survey have the same kind.
func (x surveys) areAlike(i, j int) bool { return x.first[i].Kind == x.second[j].Kind }

// distance is that of a feature of the first survey and one of the second survey.
func (x surveys) distance(i, j int) int { return rules.Apart(x.first[i].At, x.second[j].At) }

// cost is that of a match.
func (x surveys) cost(pairs [][2]int) int {
	sum := x.skip * (len(x.first) + len(x.second) - 2*len(pairs))
	for _, p := range pairs {
		sum += x.distance(p[0], p[1])
	}
	return sum
}
