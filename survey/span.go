package survey

import (
	"moonpool/api"
	"moonpool/rules"
)

// GapAt is in P9.1.
func GapAt(l []api.SurveyStation, pipe, index int) (api.Range, api.Errno) {
	if e := rules.FirstError(pipeError(l, pipe), rules.IndexError(index, len(l))); e != api.OK {
		return api.Range{}, e
	}
	return gap(l[index], pipe), api.OK
}

// SpansIn is in P9.1.
func SpansIn(l []api.SurveyStation, pipe int) ([]api.Range, api.Errno) {
	return spans(l, pipe, func(gap api.Range) bool { return gap.Lo > 0 })
}

// PossibleIn is in P9.1.
func PossibleIn(l []api.SurveyStation, pipe int) ([]api.Range, api.Errno) {
	return spans(l, pipe, func(gap api.Range) bool { return gap.Hi > 0 })
}

// spans are the longest ranges of neighbouring stations whose gaps are open.
func spans(l []api.SurveyStation, pipe int, isOpen func(gap api.Range) bool) ([]api.Range, api.Errno) {
	if e := pipeError(l, pipe); e != api.OK {
		return nil, e
	}
	all := api.Range{Hi: len(l) - 1}
	return rules.Stretches(all, func(station int) bool { return isOpen(gap(l[station], pipe)) }), api.OK
}

// pipeError is the error of stations and a diameter.
func pipeError(l []api.SurveyStation, pipe int) api.Errno {
	return rules.FirstError(stationsError(l), rules.LimitError(pipe, 1, api.MaxSurveyPipe))
}

// gap is that under a pipe with a diameter.
func gap(s api.SurveyStation, pipe int) api.Range {
	r := differences(s.Top, s.Bed)
	return api.Range{Lo: r.Lo - pipe, Hi: r.Hi - pipe}
}
