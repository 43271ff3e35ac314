package bus

import (
	"slices"

	"moonpool/api"
	"moonpool/rules"
)

// CheckStreams is in P7.3.
func CheckStreams(l []api.BusStream) (int, api.Errno) {
	nameError := rules.NameErrors(api.ErrExists)
	return rules.CheckList(l, 1, api.MaxBusStreams, func(s api.BusStream) api.Errno {
		return rules.FirstError(
			nameError(s.Name),
			rules.LimitError(s.Period, 1, api.MaxBusPeriod),
			rules.LimitError(s.Deadline, 1, s.Period),
			rules.LimitError(s.Length, 1, api.MaxBusLength),
		)
	})
}

// LoadOf is in P7.3.
func LoadOf(l []api.BusStream) (api.Frac, api.Errno) {
	if e := streamsError(l); e != api.OK {
		return api.Frac{}, e
	}
	load := api.Frac{Den: 1}
	for _, s := range l {
		load = rules.Lowest(load.Num*s.Period+s.Length*load.Den, load.Den*s.Period)
	}
	if max(load.Num, load.Den) > api.MaxPart {
		return api.Frac{}, api.ErrLarge
	}
	return load, api.OK
}

// ResponseOf is in P7.3.
func ResponseOf(l []api.BusStream, stream int) (int, api.Errno) {
	if e := rules.FirstError(streamsError(l), rules.IndexError(stream, len(l))); e != api.OK {
		return 0, e
	}
	r, ok := response(l[stream], l[:stream], api.MaxBusTime)
	if !ok {
		return 0, api.ErrNone
	}
	return r, api.OK
}

// LateIn is in P7.3.
func LateIn(l []api.BusStream) ([]int, api.Errno) {
	if e := streamsError(l); e != api.OK {
		return nil, e
	}
	var late []int
	for i, s := range l {
		if isLate(s, l[:i]) {
			late = append(late, i)
		}
	}
	return late, api.OK
}

// OrderFor is in P7.3.
func OrderFor(l []api.BusStream) ([]int, api.Errno) {
	if e := streamsError(l); e != api.OK {
		return nil, e
	}
	order, ok := orderFrom(l, nil)
	if !ok {
		return nil, api.ErrNone
	}
	return order, api.OK
}

func streamsError(l []api.BusStream) api.Errno {
	_, e := CheckStreams(l)
	return e
}

// response is that of a stream after others, or false if there is none up to most.
// What is tried is never less than what was tried before, and never greater than the response.
func response(s api.BusStream, before []api.BusStream, most int) (int, bool) {
	for tried := 1; tried <= most; {
		needed := s.Length
		for _, b := range before {
			needed += b.Length * rules.Ceiling(tried, b.Period)
		}
		if needed == tried {
			return tried, true
		}
		tried = needed
	}
	return 0, false
}

// isLate is whether a stream after others is late.
func isLate(s api.BusStream, before []api.BusStream) bool {
	_, ok := response(s, before, s.Deadline)
	return !ok
}

// orderFrom is the first order that begins with some streams, none of which is late, and in which none of the others is late. It is false if there is none.
func orderFrom(l []api.BusStream, first []int) ([]int, bool) {
	if len(first) == len(l) {
		return first, true
	}
	var before []api.BusStream
	for _, i := range first {
		before = append(before, l[i])
	}
	for i, s := range l {
		if slices.Contains(first, i) || isLate(s, before) {
			continue
		}
		if order, ok := orderFrom(l, append(slices.Clone(first), i)); ok {
			return order, true
		}
	}
	return nil, false
}
