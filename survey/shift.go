package survey

import (
	"moonpool/api"
	"moonpool/rules"
)

// mostShift is the greatest shift that fits any pair, in size.
const mostShift = 2 * api.MaxSurveyHeight

// ShiftIn is in P9.4.
func ShiftIn(l []api.SurveyPair) (api.Range, api.Errno) {
	if e := pairsError(l); e != api.OK {
		return api.Range{}, e
	}
	fitting := shifts(l, rules.SetOf())
	if rules.OrderError(fitting) != api.OK {
		return api.Range{}, api.ErrNone
	}
	return fitting, api.OK
}

// OddPairs is in P9.4.
func OddPairs(l []api.SurveyPair) ([]int, api.Errno) {
	if e := pairsError(l); e != api.OK {
		return nil, e
	}
	odd, _ := rules.Minimum(len(l), func(without rules.Set) bool { return rules.OrderError(shifts(l, without)) == api.OK })
	return odd.Members(), api.OK
}

func pairsError(l []api.SurveyPair) api.Errno {
	_, e := rules.CheckList(l, 1, api.MaxSurveyPairs, func(p api.SurveyPair) api.Errno {
		return rules.FirstError(
			rules.SizeError(api.MaxSurveyHeight, p.First.Lo, p.First.Hi, p.Second.Lo, p.Second.Hi),
			rules.OrderError(p.First),
			rules.OrderError(p.Second),
		)
	})
	return e
}

// shifts are those that fit all pairs but some. Their ends are in the wrong order if there are none.
func shifts(l []api.SurveyPair, without rules.Set) api.Range {
	fitting := api.Range{Lo: -mostShift, Hi: mostShift}
	for i, p := range l {
		if !without.Has(i) {
			fitting = rules.Common(fitting, differences(p.First, p.Second))
		}
	}
	return fitting
}
