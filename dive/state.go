package dive

import (
	"moonpool/api"
	"moonpool/rules"
)

// CheckState is in P8.2.
func CheckState(d api.DiveSite, s api.DiveState) (int, api.Errno) {
	e := rules.FirstError(
		siteError(d),
		rules.IndexError(s.Place, len(d.Home)),
		ticksError(s.At),
		rules.LimitError(s.Power, 0, api.MaxDivePower),
		numbersError(s.Oil),
	)
	if e != api.OK {
		return 0, e
	}
	return rules.FirstBad(s.Done, rules.SetErrors(len(d.Tasks)))
}

// ReturnFrom is in P8.2.
func ReturnFrom(d api.DiveSite, s api.DiveState) (api.DiveReturn, api.Errno) {
	x, e := newDive(d, s)
	if e != api.OK {
		return api.DiveReturn{}, e
	}
	return x.wayBack(), api.OK
}

// CanReturn is in P8.2.
func CanReturn(d api.DiveSite, s api.DiveState) (bool, api.Errno) {
	x, e := newDive(d, s)
	if e != api.OK {
		return false, e
	}
	return x.canReturn(), api.OK
}

// LastReturn is in P8.2. After a tide it may be possible again to return, so that all ticks are tried.
func LastReturn(d api.DiveSite, s api.DiveState) (int, api.Errno) {
	x, e := newDive(d, s)
	if e != api.OK {
		return 0, e
	}
	for tick := x.End; tick >= x.At; tick-- {
		if x.waited(tick).canReturn() {
			return tick, api.OK
		}
	}
	return 0, api.ErrNone
}

// ticksOf is how many ticks a swim takes that is begun now, and takes so many in no tide.
func (d dive) ticksOf(swim int) int {
	if swim == 0 {
		return 0
	}
	for _, t := range d.Tides {
		if t.Ticks.Lo <= d.At && d.At <= t.Ticks.Hi {
			return swim + t.Slow
		}
	}
	return swim
}

func (d dive) wayBack() api.DiveReturn {
	ticks := d.ticksOf(d.Home[d.Place])
	return api.DiveReturn{Ticks: ticks, Power: ticks * d.Swim}
}

func (d dive) canReturn() bool {
	back := d.wayBack()
	return d.Power-back.Power >= d.Reserve && d.At+back.Ticks <= d.End
}

// swumTo is a dive after a swim to a place.
func (d dive) swumTo(place int) dive {
	ticks := d.ticksOf(d.Travel[d.Place][place])
	d.Place = place
	d.At += ticks
	d.Power -= ticks * d.Swim
	return d
}

// waited is a dive that waited until a tick.
func (d dive) waited(until int) dive {
	d.Power -= (until - d.At) * d.Idle
	d.At = until
	return d
}
