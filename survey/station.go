package survey

import (
	"slices"

	"moonpool/api"
	"moonpool/rules"
)

// CheckStations is in P9.1.
func CheckStations(l []api.SurveyStation) (int, api.Errno) {
	risingError := rules.RisingErrors()
	return rules.CheckList(l, 0, api.MaxSurveyStations, func(s api.SurveyStation) api.Errno {
		return rules.FirstError(stationError(s), risingError(s.At))
	})
}

// BurialAt is in P9.1.
func BurialAt(l []api.SurveyStation, index int) (api.Range, api.Errno) {
	if e := rules.FirstError(stationsError(l), rules.IndexError(index, len(l))); e != api.OK {
		return api.Range{}, e
	}
	return burial(l[index]), api.OK
}

// BuriedBy is in P9.1.
func BuriedBy(l []api.SurveyStation, depth int) ([3]int, api.Errno) {
	var counts [3]int
	if e := rules.FirstError(stationsError(l), rules.SizeError(api.MaxSurveyHeight, depth)); e != api.OK {
		return counts, e
	}
	for _, s := range l {
		counts[isAtLeast(burial(s), depth)]++
	}
	return counts, api.OK
}

// BedAt is in P9.1.
func BedAt(l []api.SurveyStation, at int) (api.Range, api.Errno) {
	if e := stationsError(l); e != api.OK {
		return api.Range{}, e
	}
	next := slices.IndexFunc(l, func(s api.SurveyStation) bool { return s.At >= at })
	switch {
	case next < 0:
		return api.Range{}, api.ErrMissing
	case l[next].At == at:
		return l[next].Bed, api.OK
	case next == 0:
		return api.Range{}, api.ErrMissing
	}
	return bedBetween(l[next-1], l[next], at), api.OK
}

func stationsError(l []api.SurveyStation) api.Errno {
	_, e := CheckStations(l)
	return e
}

// stationError is the error of a station alone.
func stationError(s api.SurveyStation) api.Errno {
	return rules.FirstError(
		rules.LimitError(s.At, 0, api.MaxSurveyAt),
		rules.SizeError(api.MaxSurveyHeight, s.Top.Lo, s.Top.Hi, s.Bed.Lo, s.Bed.Hi),
		rules.OrderError(s.Top),
		rules.OrderError(s.Bed),
	)
}

func burial(s api.SurveyStation) api.Range { return differences(s.Bed, s.Top) }

// differences are those of a number of one range and a number of another one.
func differences(a, b api.Range) api.Range { return api.Range{Lo: a.Lo - b.Hi, Hi: a.Hi - b.Lo} }

// isAtLeast answers whether what lies in a range is at least a number.
func isAtLeast(r api.Range, n int) int {
	switch {
	case r.Lo >= n:
		return api.AnswerYes
	case r.Hi < n:
		return api.AnswerNo
	}
	return api.AnswerMaybe
}

// bedBetween is the bed at a position between two stations.
func bedBetween(a, b api.SurveyStation, at int) api.Range {
	length, behind, before := b.At-a.At, at-a.At, b.At-at
	return api.Range{
		Lo: rules.Floor(a.Bed.Lo*before+b.Bed.Lo*behind, length),
		Hi: rules.Ceiling(a.Bed.Hi*before+b.Bed.Hi*behind, length),
	}
}
