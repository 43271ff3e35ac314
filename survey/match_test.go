package survey_test

import (
	"fmt"
	"math"
	"math/rand/v2"
	"slices"
	"testing"

	"moonpool/api"
	"moonpool/survey"
)

// P9.3 (MatchOf, CheckMatch), P9.12

func TestMatchOf(t *testing.T) {
	a, b := exampleFeatures()
	here, there, apart := featureOf(3, 5, 0, 1, 1), featureOf(7, 8, 0, 1, 1), featureOf(3, 5, 1, 1, 1)
	some := func(f ...api.SurveyFeature) []api.SurveyFeature { return f }
	for _, c := range []struct {
		name       string
		a, b       []api.SurveyFeature
		skip       int
		pairs      [][2]int
		potentials [][]int
		cost       int
	}{
		{"example 5", a, b, 5, exampleMatch().Pairs, exampleMatch().Potentials, 8},
		{"no features", nil, nil, 5, nil, [][]int{{0}}, 0},
		{"none in the first survey", nil, some(here, there), 5, nil, [][]int{{0, 5, 10}}, 10},
		{"none in the second survey", some(here, there), nil, 5, nil, [][]int{{0}, {5}, {10}}, 10},
		{"no skip, a pair with a distance", some(here), some(there), 0, nil, [][]int{{0, 0}, {0, 0}}, 0},
		{"no skip, a pair without one", some(here), some(here), 0, nil, [][]int{{0, 0}, {0, 0}}, 0},
		{"a pair as good as none", some(here), some(there), 1, nil, [][]int{{0, 1}, {1, 2}}, 2},
		{"a pair better than none", some(here), some(there), 2, [][2]int{{0, 0}}, [][]int{{0, 2}, {2, 2}}, 2},
		{"other kinds", some(here), some(apart), 9, nil, [][]int{{0, 9}, {9, 18}}, 18},
		{"one that touches", some(featureOf(3, 5, 0, 1, 1)), some(featureOf(5, 9, 0, 1, 1)), 1, [][2]int{{0, 0}}, [][]int{{0, 1}, {1, 0}}, 0},
		{"the first of two that are alike", some(here), some(here, here), 1, [][2]int{{0, 0}}, [][]int{{0, 1, 2}, {1, 0, 1}}, 1},
		{"the first one of the first survey", some(here, here), some(here), 1, [][2]int{{0, 0}}, [][]int{{0, 1}, {1, 0}, {2, 1}}, 1},
		{"a nearer second one", some(here), some(featureOf(0, 0, 0, 1, 1), here), 5, [][2]int{{0, 1}}, [][]int{{0, 5, 10}, {5, 3, 5}}, 5},
		{"kinds in another order", some(here, apart), some(apart, here), 3, [][2]int{{0, 1}}, [][]int{{0, 3, 6}, {3, 6, 3}, {6, 3, 6}}, 6},
		{"the greatest cost", some(featureOf(0, 0, 0, 0, 0)), some(featureOf(100000, 100000, 0, 0, 0)), 100000, [][2]int{{0, 0}}, [][]int{{0, 100000}, {100000, 100000}}, 100000},
	} {
		m, cost, e := survey.MatchOf(c.a, c.b, c.skip)
		want(t, "MatchOf: "+c.name, m, e, api.SurveyMatch{Pairs: c.pairs, Potentials: c.potentials}, api.OK)
		want(t, "the cost: "+c.name, cost, e, c.cost, api.OK)
		cost, e = survey.CheckMatch(c.a, c.b, c.skip, m)
		want(t, "CheckMatch: "+c.name, cost, e, c.cost, api.OK)
	}
}

func TestErrorsOfMatchOf(t *testing.T) {
	a, b := exampleFeatures()
	bad, wrong := []api.SurveyFeature{featureOf(0, 0, 3, 0, 0)}, []api.SurveyFeature{featureOf(1, 0, 0, 0, 0)}
	for _, c := range []struct {
		name string
		a, b []api.SurveyFeature
		skip int
		err  api.Errno
	}{
		{"the first survey", bad, b, 5, api.ErrKind},
		{"the second survey", a, bad, 5, api.ErrKind},
		{"the first survey before the second one", bad, wrong, 5, api.ErrKind},
		{"the second survey before skip", a, wrong, -1, api.ErrOrder},
		{"too many features", alikeFeatures(9), b, 5, api.ErrLarge},
		{"a skip below 0", a, b, -1, api.ErrRange},
		{"a skip too great", a, b, 100001, api.ErrRange},
		{"the least int", nil, nil, math.MinInt, api.ErrRange},
	} {
		m, cost, e := survey.MatchOf(c.a, c.b, c.skip)
		want(t, "MatchOf: "+c.name, m, e, api.SurveyMatch{}, c.err)
		want(t, "the cost: "+c.name, cost, e, 0, c.err)
		l, e := survey.ChangesOf(c.a, c.b, c.skip)
		want(t, "ChangesOf: "+c.name, l, e, "[]", c.err)
		cost, e = survey.CheckMatch(c.a, c.b, c.skip, api.SurveyMatch{Pairs: [][2]int{{-1, -1}}})
		want(t, "CheckMatch: "+c.name, cost, e, 0, c.err)
	}
}

func TestCheckMatch(t *testing.T) {
	a, b := exampleFeatures()
	for _, c := range []struct {
		name   string
		change func(m *api.SurveyMatch)
		cost   int
		err    api.Errno
	}{
		{"the best one", func(m *api.SurveyMatch) {}, 8, api.OK},
		{"less great potentials", func(m *api.SurveyMatch) {
			m.Potentials = [][]int{{0, 0, 0, 5}, {0, 0, 0, 3}, {0, 0, 3, 8}}
		}, 8, api.OK},
		{"no such feature of the first survey", func(m *api.SurveyMatch) { m.Pairs[1][0] = 2 }, 0, api.ErrMissing},
		{"no such feature of the second survey", func(m *api.SurveyMatch) { m.Pairs[1][1] = 3 }, 0, api.ErrMissing},
		{"the feature -1", func(m *api.SurveyMatch) { m.Pairs[0][1] = -1 }, 0, api.ErrMissing},
		{"the least int", func(m *api.SurveyMatch) { m.Pairs[0][0] = math.MinInt }, 0, api.ErrMissing},
		{"missing before the order", func(m *api.SurveyMatch) { m.Pairs[1] = [2]int{0, 3} }, 0, api.ErrMissing},
		{"missing before the kind", func(m *api.SurveyMatch) { m.Pairs[0] = [2]int{2, 2} }, 0, api.ErrMissing},
		{"one of the first survey twice", func(m *api.SurveyMatch) { m.Pairs[1] = [2]int{0, 1} }, 0, api.ErrOrder},
		{"one of the second survey twice", func(m *api.SurveyMatch) { m.Pairs[1] = [2]int{1, 0} }, 0, api.ErrOrder},
		{"the other way round", func(m *api.SurveyMatch) { slices.Reverse(m.Pairs) }, 0, api.ErrOrder},
		{"across", func(m *api.SurveyMatch) { m.Pairs = [][2]int{{0, 1}} }, 0, api.ErrKind},
		{"the kind of a pair before the next pair", func(m *api.SurveyMatch) { m.Pairs = [][2]int{{0, 1}, {9, 9}} }, 0, api.ErrKind},
		{"the order of a pair before the next pair", func(m *api.SurveyMatch) { m.Pairs = [][2]int{{0, 0}, {1, 0}, {9, 9}} }, 0, api.ErrOrder},
		{"the order before the kind", func(m *api.SurveyMatch) { m.Pairs = [][2]int{{1, 1}, {0, 2}} }, 0, api.ErrOrder},
		{"very many pairs", func(m *api.SurveyMatch) { m.Pairs = make([][2]int, 100000) }, 0, api.ErrOrder},
		{"a pair before the shape", func(m *api.SurveyMatch) { m.Pairs[1][0], m.Potentials = 2, nil }, 0, api.ErrMissing},
		{"no potentials", func(m *api.SurveyMatch) { m.Potentials = nil }, 0, api.ErrShape},
		{"too few rows", func(m *api.SurveyMatch) { m.Potentials = m.Potentials[:2] }, 0, api.ErrShape},
		{"too many rows", func(m *api.SurveyMatch) { m.Potentials = append(m.Potentials, []int{15, 10, 8, 13}) }, 0, api.ErrShape},
		{"a row too short", func(m *api.SurveyMatch) { m.Potentials[2] = []int{10, 5, 3} }, 0, api.ErrShape},
		{"a row too long", func(m *api.SurveyMatch) { m.Potentials[0] = []int{0, 5, 10, 15, 20} }, 0, api.ErrShape},
		{"an empty row", func(m *api.SurveyMatch) { m.Potentials[1] = nil }, 0, api.ErrShape},
		{"the shape before a number", func(m *api.SurveyMatch) { m.Potentials[0][0], m.Potentials[2] = -1, []int{10, 5, 3} }, 0, api.ErrShape},
		{"a potential below 0", func(m *api.SurveyMatch) { m.Potentials[0][1] = -1 }, 0, api.ErrRange},
		{"a potential too great", func(m *api.SurveyMatch) { m.Potentials[2][3] = 3200001 }, 0, api.ErrRange},
		{"a potential that is the least int", func(m *api.SurveyMatch) { m.Potentials[0][0] = math.MinInt }, 0, api.ErrRange},
		{"a number before the proof", func(m *api.SurveyMatch) { m.Potentials[0][0], m.Potentials[2][2] = 1, -1 }, 0, api.ErrRange},
		{"the greatest potential", func(m *api.SurveyMatch) { m.Potentials[2][3] = 3200000 }, 0, api.ErrProof},
		{"the first potential above 0", func(m *api.SurveyMatch) { m.Potentials[0][0] = 1 }, 0, api.ErrProof},
		{"one too great after the one with i less by 1", func(m *api.SurveyMatch) { m.Potentials[1][0] = 6 }, 0, api.ErrProof},
		{"one too great after the one with j less by 1", func(m *api.SurveyMatch) { m.Potentials[0][1] = 6 }, 0, api.ErrProof},
		{"one too great after both", func(m *api.SurveyMatch) { m.Potentials[2][2], m.Potentials[2][3] = 4, 9 }, 0, api.ErrProof},
		{"the proof before the cost", func(m *api.SurveyMatch) { m.Potentials[2][2], m.Potentials[2][3] = 4, 8 }, 0, api.ErrProof},
		{"the last one too small", func(m *api.SurveyMatch) { m.Potentials[2][3] = 7 }, 0, api.ErrClash},
		{"all potentials 0", func(m *api.SurveyMatch) {
			m.Potentials = [][]int{make([]int, 4), make([]int, 4), make([]int, 4)}
		}, 0, api.ErrClash},
		{"no pairs", func(m *api.SurveyMatch) { m.Pairs = nil }, 0, api.ErrClash},
		{"a pair less", func(m *api.SurveyMatch) { m.Pairs = m.Pairs[1:] }, 0, api.ErrClash},
	} {
		m := exampleMatch()
		c.change(&m)
		cost, e := survey.CheckMatch(a, b, 5, m)
		want(t, "CheckMatch: "+c.name, cost, e, c.cost, c.err)
	}
	none := api.SurveyMatch{Potentials: [][]int{{0}}}
	cost, e := survey.CheckMatch(nil, nil, 5, none)
	want(t, "CheckMatch of no features", cost, e, 0, api.OK)
	none.Pairs = [][2]int{{0, 0}}
	cost, e = survey.CheckMatch(nil, nil, 5, none)
	want(t, "CheckMatch of a pair of no features", cost, e, 0, api.ErrMissing)
}

// TestCheckMatchWithPairsOfOtherKinds is whether potentials need not be less than others plus the distance of features that are no pair.
func TestCheckMatchWithPairsOfOtherKinds(t *testing.T) {
	a, b := []api.SurveyFeature{featureOf(0, 0, 0, 0, 0)}, []api.SurveyFeature{featureOf(0, 0, 1, 0, 0)}
	cost, e := survey.CheckMatch(a, b, 4, api.SurveyMatch{Potentials: [][]int{{0, 4}, {4, 8}}})
	want(t, "CheckMatch with other kinds", cost, e, 8, api.OK)
	b[0].Kind = 0
	cost, e = survey.CheckMatch(a, b, 4, api.SurveyMatch{Potentials: [][]int{{0, 4}, {4, 8}}})
	want(t, "CheckMatch with the same kind", cost, e, 0, api.ErrProof)
}

// matches are all matches of features, in lexicographic order.
func matches(a, b []api.SurveyFeature) [][][2]int {
	all := [][][2]int{nil}
	for done := 0; done < len(all); done++ {
		m := all[done]
		last := [2]int{-1, -1}
		if len(m) > 0 {
			last = m[len(m)-1]
		}
		for i := last[0] + 1; i < len(a); i++ {
			for j := last[1] + 1; j < len(b); j++ {
				if a[i].Kind == b[j].Kind {
					all = append(all, append(slices.Clone(m), [2]int{i, j}))
				}
			}
		}
	}
	slices.SortFunc(all, func(m, n [][2]int) int {
		return slices.CompareFunc(m, n, func(p, q [2]int) int { return slices.Compare(p[:], q[:]) })
	})
	return all
}

func costOf(a, b []api.SurveyFeature, skip int, pairs [][2]int) int {
	sum := 0
	for i := range a {
		if !slices.ContainsFunc(pairs, func(p [2]int) bool { return p[0] == i }) {
			sum += skip
		}
	}
	for j := range b {
		if !slices.ContainsFunc(pairs, func(p [2]int) bool { return p[1] == j }) {
			sum += skip
		}
	}
	for _, p := range pairs {
		sum += distanceOf(a[p[0]].At, b[p[1]].At)
	}
	return sum
}

// distanceOf is the distance of two ranges: the least one of two of their numbers.
func distanceOf(a, b api.Range) int {
	switch {
	case a.Hi < b.Lo:
		return b.Lo - a.Hi
	case b.Hi < a.Lo:
		return a.Lo - b.Hi
	}
	return 0
}

// bestOf is the first of all matches that has the minimum cost.
func bestOf(a, b []api.SurveyFeature, skip int) ([][2]int, int) {
	var best [][2]int
	least := math.MaxInt
	for _, m := range matches(a, b) {
		if n := costOf(a, b, skip, m); n < least {
			best, least = m, n
		}
	}
	return best, least
}

func TestMatchesAmongAll(t *testing.T) {
	r := newRandom()
	sizes, ties := map[int]int{}, 0
	for range 1000 {
		a, b, skip := randomFeatures(r, 4), randomFeatures(r, 4), randomSkip(r)
		best, least := bestOf(a, b, skip)
		wanted := api.SurveyMatch{Pairs: best}
		for i := range len(a) + 1 {
			var row []int
			for j := range len(b) + 1 {
				_, n := bestOf(a[:i], b[:j], skip)
				row = append(row, n)
			}
			wanted.Potentials = append(wanted.Potentials, row)
		}
		m, n, e := survey.MatchOf(a, b, skip)
		what := fmt.Sprint("MatchOf ", a, b, skip)
		want(t, what, m, e, wanted, api.OK)
		want(t, what, n, e, least, api.OK)
		for _, pairs := range matches(a, b) {
			m.Pairs = pairs
			cost := costOf(a, b, skip, pairs)
			err := api.ErrClash
			if cost == least {
				err = api.OK
				ties++
			} else {
				cost = 0
			}
			n, e := survey.CheckMatch(a, b, skip, m)
			want(t, fmt.Sprint("CheckMatch ", a, b, skip, m), n, e, cost, err)
		}
		sizes[len(best)]++
	}
	if sizes[0] < 50 || sizes[2] < 50 || sizes[3] < 50 || ties < 1300 {
		t.Errorf("too few matches of one size, or of the minimum cost, are tested: %v, %d", sizes, ties)
	}
}

// randomPotentials are some of any shape that is permitted, which often hold.
func randomPotentials(r *rand.Rand, a, b []api.SurveyFeature, skip int) [][]int {
	m, _, _ := survey.MatchOf(a, b, skip)
	for range r.IntN(4) {
		row := m.Potentials[r.IntN(len(a)+1)]
		j := r.IntN(len(b) + 1)
		row[j] = max(0, row[j]+between(r, -2, 1))
	}
	return m.Potentials
}

// TestNoMatchCostsLessThanAcceptedOnes takes potentials of any kind, and any matches.
func TestNoMatchCostsLessThanAcceptedOnes(t *testing.T) {
	r := newRandom()
	accepted, refused := 0, 0
	for range 2000 {
		a, b, skip := randomFeatures(r, 4), randomFeatures(r, 4), randomSkip(r)
		all := matches(a, b)
		_, least := bestOf(a, b, skip)
		potentials := randomPotentials(r, a, b, skip)
		for range 4 {
			m := api.SurveyMatch{Pairs: all[r.IntN(len(all))], Potentials: potentials}
			n, e := survey.CheckMatch(a, b, skip, m)
			if e != api.OK {
				refused++
				continue
			}
			accepted++
			if n != costOf(a, b, skip, m.Pairs) || n != least {
				t.Errorf("CheckMatch %v %v %d %v: %d, but there is one with %d", a, b, skip, m, n, least)
			}
		}
	}
	if accepted < 500 || refused < 500 {
		t.Errorf("too few matches are tested: %d accepted, %d refused", accepted, refused)
	}
}

func TestMatchesOfMostFeatures(t *testing.T) {
	r := newRandom()
	for range 500 {
		a, b, skip := randomFeatures(r, 8), randomFeatures(r, 8), randomSkip(r)
		m, n, e := survey.MatchOf(a, b, skip)
		what := fmt.Sprint(a, b, skip)
		want(t, "the cost of MatchOf "+what, n, e, costOf(a, b, skip, m.Pairs), api.OK)
		cost, e := survey.CheckMatch(a, b, skip, m)
		want(t, "CheckMatch of MatchOf "+what, cost, e, n, api.OK)
	}
	far := make([]api.SurveyFeature, 8)
	for i := range far {
		far[i] = featureOf(100000, 100000, i%3, 0, 0)
	}
	m, n, e := survey.MatchOf(make([]api.SurveyFeature, 8), far, 100000)
	want(t, "MatchOf of the farthest features", m.Pairs, e, "[[0 0] [1 3] [2 6]]", api.OK)
	want(t, "their cost", n, e, 3*100000+10*100000, api.OK)
	n, e = survey.CheckMatch(make([]api.SurveyFeature, 8), far, 100000, m)
	want(t, "CheckMatch of the farthest features", n, e, 1300000, api.OK)
}

// TestMatchWithItself is whether a survey matched with itself has all pairs, the cost 0 and no change.
func TestMatchWithItself(t *testing.T) {
	r := newRandom()
	for range 1000 {
		l, skip := randomFeatures(r, 8), between(r, 1, 9)
		var pairs [][2]int
		for i := range l {
			pairs = append(pairs, [2]int{i, i})
		}
		m, n, e := survey.MatchOf(l, slices.Clone(l), skip)
		what := fmt.Sprint(l, " with itself")
		want(t, what, m.Pairs, e, pairs, api.OK)
		want(t, what, n, e, 0, api.OK)
		changes, e := survey.ChangesOf(l, l, skip)
		want(t, "the changes of "+what, changes, e, "[]", api.OK)
		m, n, e = survey.MatchOf(l, l, 0)
		want(t, what+" without skip", m.Pairs, e, "[]", api.OK)
		want(t, what+" without skip", n, e, 0, api.OK)
	}
}
