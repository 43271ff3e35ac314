package survey_test

import (
	"math"
	"testing"

	"moonpool/api"
	"moonpool/survey"
)

// P9.3 (CheckFeatures)

// alikeFeatures are so many valid ones, one like the other.
func alikeFeatures(count int) []api.SurveyFeature {
	l := make([]api.SurveyFeature, count)
	for i := range l {
		l[i] = featureOf(5, 6, 1, 2, 3)
	}
	return l
}

func TestCheckFeatures(t *testing.T) {
	some := func(f ...api.SurveyFeature) []api.SurveyFeature { return f }
	fine := featureOf(5, 6, 1, 2, 3)
	a, b := exampleFeatures()
	for _, c := range []struct {
		name     string
		features []api.SurveyFeature
		index    int
		err      api.Errno
	}{
		{"none", nil, 0, api.OK},
		{"the first survey of the example", a, 0, api.OK},
		{"the second survey of the example", b, 0, api.OK},
		{"as many as possible", alikeFeatures(8), 0, api.OK},
		{"too many", alikeFeatures(9), 0, api.ErrLarge},
		{"too many, the first one bad", append(some(featureOf(-1, 0, 0, 0, 0)), alikeFeatures(8)...), 0, api.ErrLarge},
		{"the least numbers", some(featureOf(0, 0, api.SurveyBoulder, 0, 0)), 0, api.OK},
		{"the greatest numbers", some(featureOf(100000, 100000, api.SurveyDent, 10000, 10000)), 0, api.OK},
		{"the same beginning", some(featureOf(5, 9, 0, 0, 0), featureOf(5, 5, 0, 0, 0)), 0, api.OK},
		{"one within another one", some(featureOf(5, 9, 0, 0, 0), featureOf(6, 7, 0, 0, 0)), 0, api.OK},
		{"At.Lo below 0", some(fine, featureOf(-1, 6, 1, 2, 3)), 1, api.ErrRange},
		{"At.Hi too great", some(featureOf(5, 100001, 1, 2, 3)), 0, api.ErrRange},
		{"At.Hi below 0", some(featureOf(5, -1, 1, 2, 3)), 0, api.ErrRange},
		{"Size.Lo below 0", some(featureOf(5, 6, 1, -1, 3)), 0, api.ErrRange},
		{"Size.Hi too great", some(featureOf(5, 6, 1, 2, 10001)), 0, api.ErrRange},
		{"the least int", some(featureOf(5, 6, 1, math.MinInt, 3)), 0, api.ErrRange},
		{"At in the wrong order", some(featureOf(6, 5, 1, 2, 3)), 0, api.ErrOrder},
		{"Size in the wrong order", some(fine, fine, featureOf(5, 6, 1, 3, 2)), 2, api.ErrOrder},
		{"a size before the order of At", some(featureOf(6, 5, 1, 2, 10001)), 0, api.ErrRange},
		{"a kind below 0", some(featureOf(5, 6, -1, 2, 3)), 0, api.ErrKind},
		{"a kind that there is not", some(fine, featureOf(5, 6, 3, 2, 3)), 1, api.ErrKind},
		{"the greatest int as a kind", some(featureOf(5, 6, math.MaxInt, 2, 3)), 0, api.ErrKind},
		{"the range before the kind", some(featureOf(5, 6, 3, 2, 10001)), 0, api.ErrRange},
		{"the order of ends before the kind", some(featureOf(5, 6, 3, 3, 2)), 0, api.ErrOrder},
		{"before the one before", some(fine, featureOf(4, 6, 1, 2, 3)), 1, api.ErrOrder},
		{"the kind before the order of features", some(fine, featureOf(4, 6, 3, 2, 3)), 1, api.ErrKind},
		{"the order before the next feature", some(fine, featureOf(4, 6, 1, 2, 3), featureOf(-1, 6, 1, 2, 3)), 1, api.ErrOrder},
		{"the order after one that begins at once", some(fine, fine, featureOf(4, 4, 0, 0, 0)), 2, api.ErrOrder},
	} {
		i, e := survey.CheckFeatures(c.features)
		want(t, "CheckFeatures: "+c.name, i, e, c.index, c.err)
	}
}
