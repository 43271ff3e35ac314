package winch

import (
	"slices"

	"moonpool/api"
	"moonpool/rules"
)

// WindowsIn is in P2.5.
func WindowsIn(l []api.Range, x api.WinchCalm) ([]api.Range, api.Errno) {
	if e := calmError(l, x); e != api.OK {
		return nil, e
	}
	return windows(l, x), api.OK
}

// PossibleIn is in P2.5.
func PossibleIn(l []api.Range, x api.WinchCalm) ([]api.Range, api.Errno) {
	if e := calmError(l, x); e != api.OK {
		return nil, e
	}
	mayBeCalm := func(heights api.Range) bool { return heights.Lo <= x.Limit && heights.Hi >= -x.Limit }
	return stretches(l, x.Length, mayBeCalm), api.OK
}

// FirstFrom is in P2.5.
func FirstFrom(l []api.Range, x api.WinchCalm, tick int) (int, api.Errno) {
	e := rules.FirstError(calmError(l, x), rules.LimitError(tick, 0, api.MaxWinchForecasts))
	if e != api.OK {
		return 0, e
	}
	for _, w := range windows(l, x) {
		first := max(tick, w.Lo)
		if first+x.Length-1 <= w.Hi {
			return first, api.OK
		}
	}
	return 0, api.ErrNone
}

// calmError is the error of forecasts and a calm.
func calmError(l []api.Range, x api.WinchCalm) api.Errno {
	if len(l) > api.MaxWinchForecasts {
		return api.ErrLarge
	}
	_, e := rules.FirstBad(l, func(heights api.Range) api.Errno { return rules.RangeError(heights, api.MaxWinchHeight) })
	return rules.FirstError(
		e,
		rules.LimitError(x.Limit, 0, api.MaxWinchHeight),
		rules.LimitError(x.Length, 1, api.MaxWinchForecasts),
	)
}

func windows(l []api.Range, x api.WinchCalm) []api.Range {
	calm := func(heights api.Range) bool {
		return rules.Within(heights.Lo, x.Limit) && rules.Within(heights.Hi, x.Limit)
	}
	return stretches(l, x.Length, calm)
}

// stretches are the largest ranges of at least length neighbouring ticks that are such.
func stretches(l []api.Range, length int, such func(heights api.Range) bool) []api.Range {
	all := rules.Stretches(api.Range{Hi: len(l) - 1}, func(tick int) bool { return such(l[tick]) })
	return slices.DeleteFunc(all, func(r api.Range) bool { return r.Hi-r.Lo+1 < length })
}
