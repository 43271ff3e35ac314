package dive

import (
	"moonpool/api"
	"moonpool/rules"
)

// WatchesFor is in P8.6.
func WatchesFor(x api.DiveRota) ([]api.DiveWatch, api.Errno) {
	if e := rotaError(x); e != api.OK {
		return nil, e
	}
	count := rules.Ceiling(x.Span.Hi-x.Span.Lo+1, x.Work)
	if count > api.MaxDiveWatches {
		return nil, api.ErrLarge
	}
	watches := make([]api.DiveWatch, count)
	for i := range watches {
		begin := x.Span.Lo + i*x.Work
		watches[i] = api.DiveWatch{Pilot: i % x.Pilots, Ticks: api.Range{Lo: begin, Hi: min(begin+x.Work-1, x.Span.Hi)}}
	}
	// Nothing can be wrong with them but that a pilot does not rest enough.
	if _, e := CheckWatches(x, watches); e != api.OK {
		return nil, e
	}
	return watches, api.OK
}

// CheckWatches is in P8.6.
func CheckWatches(x api.DiveRota, l []api.DiveWatch) (int, api.Errno) {
	if e := rotaError(x); e != api.OK {
		return 0, e
	}
	if i, e := rules.CheckList(l, 0, api.MaxDiveWatches, watchErrors(x)); e != api.OK {
		return i, e
	}
	if len(l) == 0 || l[len(l)-1].Ticks.Hi != x.Span.Hi {
		return 0, api.ErrOpen
	}
	return 0, api.OK
}

func rotaError(x api.DiveRota) api.Errno {
	return rules.FirstError(
		ticksError(x.Span.Lo, x.Span.Hi),
		rules.LimitError(x.Pilots, 1, api.MaxDivePilots),
		rules.LimitError(x.Work, 1, api.MaxDiveNumber),
		numbersError(x.Rest),
		rules.OrderError(x.Span),
	)
}

// watchErrors makes the function that finds the errors of watches one after another.
func watchErrors(x api.DiveRota) func(w api.DiveWatch) api.Errno {
	next := x.Span.Lo
	rested := make([]int, x.Pilots) // from which tick on each pilot has rested enough
	return func(w api.DiveWatch) api.Errno {
		switch {
		case w.Pilot < 0 || w.Pilot >= x.Pilots:
			return api.ErrMissing
		case w.Ticks.Lo != next:
			return api.ErrClash
		case w.Ticks.Hi < w.Ticks.Lo || w.Ticks.Hi > x.Span.Hi:
			return api.ErrRange
		case w.Ticks.Hi-w.Ticks.Lo >= x.Work:
			return api.ErrBreak
		case w.Ticks.Lo < rested[w.Pilot]:
			return api.ErrRefused
		}
		next = w.Ticks.Hi + 1
		rested[w.Pilot] = next + x.Rest
		return api.OK
	}
}
