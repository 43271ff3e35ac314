package survey

import (
	"moonpool/api"
	"moonpool/rules"
)

// GapsIn is in P9.2.
func GapsIn(swaths []api.Range, span api.Range, need int) ([]api.Range, api.Errno) {
	_, e := rules.CheckList(swaths, 0, api.MaxSurveySwaths, swathError)
	if e = rules.FirstError(e, swathError(span), rules.LimitError(need, 1, api.MaxSurveySwaths)); e != api.OK {
		return nil, e
	}
	return rules.Stretches(span, func(at int) bool { return coverage(swaths, at) < need }), api.OK
}

// swathError is the error of a swath, or of a span.
func swathError(r api.Range) api.Errno {
	return rules.FirstError(rules.LimitsError(0, api.MaxSurveyAt, r.Lo, r.Hi), rules.OrderError(r))
}

// coverage is by how many swaths a position is covered.
func coverage(swaths []api.Range, at int) int {
	count := 0
	for _, r := range swaths {
		if r.Lo <= at && at <= r.Hi {
			count++
		}
	}
	return count
}
