package survey_test

import (
	"fmt"
	"testing"

	"moonpool/api"
	"moonpool/survey"
)

// P9.3 (ChangesOf), P9.13

func changeOf(kind, first, second, least int) api.SurveyChange {
	return api.SurveyChange{Kind: kind, First: first, Second: second, Least: least}
}

func TestChangesOf(t *testing.T) {
	a, b := exampleFeatures()
	sized := func(least, most int) []api.SurveyFeature {
		return []api.SurveyFeature{featureOf(0, 0, 0, least, most)}
	}
	for _, c := range []struct {
		name    string
		a, b    []api.SurveyFeature
		skip    int
		changes []api.SurveyChange
	}{
		{"example 6", a, b, 5, []api.SurveyChange{changeOf(api.SurveyGrown, 1, 1, 2), changeOf(api.SurveyNew, -1, 2, 0)}},
		{"the other way round", b, a, 5, []api.SurveyChange{changeOf(api.SurveyShrunk, 1, 1, 2), changeOf(api.SurveyLost, 2, -1, 0)}},
		{"with a skip as great as the distances", a, b, 1, []api.SurveyChange{changeOf(api.SurveyLost, 1, -1, 0), changeOf(api.SurveyNew, -1, 1, 0), changeOf(api.SurveyNew, -1, 2, 0)}},
		{"no skip", a, b, 0, []api.SurveyChange{
			changeOf(api.SurveyLost, 0, -1, 0), changeOf(api.SurveyLost, 1, -1, 0),
			changeOf(api.SurveyNew, -1, 0, 0), changeOf(api.SurveyNew, -1, 1, 0), changeOf(api.SurveyNew, -1, 2, 0),
		}},
		{"no features", nil, nil, 5, nil},
		{"all lost", a, nil, 5, []api.SurveyChange{changeOf(api.SurveyLost, 0, -1, 0), changeOf(api.SurveyLost, 1, -1, 0)}},
		{"all new", nil, a, 5, []api.SurveyChange{changeOf(api.SurveyNew, -1, 0, 0), changeOf(api.SurveyNew, -1, 1, 0)}},
		{"sizes that touch", sized(3, 5), sized(5, 9), 1, nil},
		{"sizes that touch, the other way round", sized(5, 9), sized(3, 5), 1, nil},
		{"a size within another one", sized(3, 9), sized(5, 6), 1, nil},
		{"grown by 1", sized(3, 5), sized(6, 9), 1, []api.SurveyChange{changeOf(api.SurveyGrown, 0, 0, 1)}},
		{"shrunk by 1", sized(6, 9), sized(3, 5), 1, []api.SurveyChange{changeOf(api.SurveyShrunk, 0, 0, 1)}},
		{"grown from 0", sized(0, 0), sized(10000, 10000), 1, []api.SurveyChange{changeOf(api.SurveyGrown, 0, 0, 10000)}},
		{"in the order of the first survey", []api.SurveyFeature{featureOf(0, 0, 0, 5, 5), featureOf(1, 1, 1, 5, 5), featureOf(2, 2, 2, 5, 5)},
			[]api.SurveyFeature{featureOf(0, 0, 0, 4, 4), featureOf(1, 1, 2, 6, 6), featureOf(2, 2, 0, 5, 5)}, 2,
			[]api.SurveyChange{changeOf(api.SurveyShrunk, 0, 0, 1), changeOf(api.SurveyLost, 1, -1, 0), changeOf(api.SurveyGrown, 2, 1, 1), changeOf(api.SurveyNew, -1, 2, 0)}},
	} {
		l, e := survey.ChangesOf(c.a, c.b, c.skip)
		want(t, "ChangesOf: "+c.name, l, e, c.changes, api.OK)
	}
}

// leastChange is the least change of a true size, if all of them change in one direction.
func leastChange(before, after api.Range) (kind, least int, ok bool) {
	smaller, greater, same := 0, 0, 0
	least = 100000
	for from := before.Lo; from <= before.Hi; from++ {
		for to := after.Lo; to <= after.Hi; to++ {
			least = min(least, max(from-to, to-from))
			switch {
			case to < from:
				smaller++
			case to > from:
				greater++
			default:
				same++
			}
		}
	}
	switch {
	case same == 0 && smaller == 0:
		return api.SurveyGrown, least, true
	case same == 0 && greater == 0:
		return api.SurveyShrunk, least, true
	}
	return 0, 0, false
}

// TestChangesOfTrueSizes takes all true sizes that the ranges of each pair permit.
func TestChangesOfTrueSizes(t *testing.T) {
	r := newRandom()
	kinds := map[int]int{}
	for range 2000 {
		a, b, skip := randomFeatures(r, 8), randomFeatures(r, 8), randomSkip(r)
		m, _, _ := survey.MatchOf(a, b, skip)
		second := map[int]int{}
		first := map[int]int{}
		for _, p := range m.Pairs {
			second[p[0]], first[p[1]] = p[1], p[0]
		}
		var changes []api.SurveyChange
		for i := range a {
			j, ok := second[i]
			if !ok {
				changes = append(changes, changeOf(api.SurveyLost, i, -1, 0))
			} else if kind, least, ok := leastChange(a[i].Size, b[j].Size); ok {
				changes = append(changes, changeOf(kind, i, j, least))
			}
		}
		for j := range b {
			if _, ok := first[j]; !ok {
				changes = append(changes, changeOf(api.SurveyNew, -1, j, 0))
			}
		}
		l, e := survey.ChangesOf(a, b, skip)
		want(t, fmt.Sprint("ChangesOf ", a, b, skip), l, e, changes, api.OK)
		for _, c := range l {
			kinds[c.Kind]++
		}
	}
	for _, kind := range []int{api.SurveyNew, api.SurveyLost, api.SurveyGrown, api.SurveyShrunk} {
		if kinds[kind] < 500 {
			t.Errorf("too few changes of one kind are tested: %v", kinds)
		}
	}
}
