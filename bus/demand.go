package bus

import (
	"moonpool/api"
	"moonpool/rules"
)

// DemandIn is in P7.5.
func DemandIn(l []api.BusStream, ticks int) (int, api.Errno) {
	if e := rules.FirstError(streamsError(l), rules.LimitError(ticks, 0, api.MaxBusTime)); e != api.OK {
		return 0, e
	}
	return demand(l, ticks), api.OK
}

// OverloadIn is in P7.5.
func OverloadIn(l []api.BusStream) (int, api.Errno) {
	if e := streamsError(l); e != api.OK {
		return 0, e
	}
	last := cycle(l)
	if last > api.MaxBusCycle {
		return 0, api.ErrLarge
	}
	for ticks := 1; ticks <= last; ticks++ {
		if demand(l, ticks) > ticks {
			return ticks, api.OK
		}
	}
	return 0, api.ErrNone
}

func demand(l []api.BusStream, ticks int) int {
	sum := 0
	for _, s := range l {
		if s.Deadline <= ticks {
			sum += s.Length * (1 + (ticks-s.Deadline)/s.Period)
		}
	}
	return sum
}

// cycle is the smallest common multiple of all periods.
func cycle(l []api.BusStream) int {
	multiple := 1
	for _, s := range l {
		multiple *= s.Period / rules.Divisor(multiple, s.Period)
	}
	return multiple
}
