package thrust

import (
	"iter"

	"moonpool/api"
	"moonpool/rules"
)

// Where the number of a thruster stands.
const (
	resting = iota // at 0
	free           // wherever it is the nearest
	atLow
	atHigh
	stands // in how many places it may stand
)

// NearestOf is in P3.3.
func NearestOf(l []api.Thruster, wanted [3]int) (api.ThrustSetting, api.Errno) {
	if e := rules.FirstError(thrustersError(l), wantedError(wanted)); e != api.OK {
		return api.ThrustSetting{}, e
	}
	return newVehicle(l).nearest(wanted), api.OK
}

// MissOf is in P3.3.
func MissOf(l []api.Thruster, wanted [3]int) (api.ThrustMiss, api.Errno) {
	if e := rules.FirstError(thrustersError(l), wantedError(wanted)); e != api.OK {
		return api.ThrustMiss{}, e
	}
	return newVehicle(l).miss(wanted), api.OK
}

// CheckNearest is in P3.3.
func CheckNearest(l []api.Thruster, wanted [3]int, s api.ThrustSetting) (int, api.Errno) {
	e := rules.FirstError(thrustersError(l), wantedError(wanted), partsError(l, s))
	if e != api.OK {
		return 0, e
	}
	return newVehicle(l).nearestError(wanted, s)
}

// nearestError is the error of a setting that is not a nearest one, with the index of the thruster that has it.
// Numbers are checked first: those that lie within limits are so small that no gradient overflows.
func (v vehicle) nearestError(wanted column, s api.ThrustSetting) (int, api.Errno) {
	i, e := v.refusal(api.ErrBreak, func(i int) bool { return !v[i].holds(s.Parts[i], s.Den) })
	if e != api.OK {
		return i, e
	}
	miss := v.gives(s.Parts).plus(wanted, -s.Den)
	return v.refusal(api.ErrProof, func(i int) bool {
		return !v[i].permits(v[i].product(miss), s.Parts[i], s.Den)
	})
}

// permits is whether a gradient is permitted for a number within limits.
func (x limits) permits(gradient, num, den int) bool {
	if gradient > 0 {
		return num == x.Lo*den
	}
	return gradient == 0 || num == x.Hi*den
}

// nearest is a nearest setting. In one of them all numbers stand at limits, but for free ones whose columns do not depend on one another:
// as long as they do, free numbers can be moved until one of them is at a limit, and the same is given. So one is always found.
// That numbers may also rest is not needed for this: it spares thrusters that would work against each other.
func (v vehicle) nearest(wanted column) api.ThrustSetting {
	for standing := range v.standings() {
		s, ok := v.placed(standing, wanted)
		if !ok {
			continue
		}
		if _, e := v.nearestError(wanted, s); e == api.OK {
			return s
		}
	}
	return api.ThrustSetting{}
}

// standings yields all ways in which the numbers may stand, that in which all rest first.
func (v vehicle) standings() iter.Seq[[]int] {
	return func(yield func(standing []int) bool) {
		count := 1
		for range v {
			count *= stands
		}
		for n := range count {
			rest := n
			standing := make([]int, len(v))
			for i := range standing {
				standing[i] = rest % stands
				rest /= stands
			}
			if !yield(standing) {
				return
			}
		}
	}
}

// placed is the setting whose numbers stand so, and false if its free columns depend on one another. Its free numbers may exceed their limits.
func (v vehicle) placed(standing []int, wanted column) (api.ThrustSetting, bool) {
	var columns []column
	left := wanted
	for i, t := range v {
		if standing[i] == free {
			columns = append(columns, t.column)
			continue
		}
		left = left.plus(t.column, -t.number(standing[i]))
	}
	shares, den := sharesFor(columns, left)
	if den == 0 {
		return api.ThrustSetting{}, false
	}
	parts := make([]int, len(v))
	for i, t := range v {
		if standing[i] == free {
			parts[i] = shares[0]
			shares = shares[1:]
			continue
		}
		parts[i] = t.number(standing[i]) * den
	}
	den, parts = lowest(den, parts...)
	return api.ThrustSetting{Den: den, Parts: parts}, true
}

// number is that of a thruster that is not free.
func (x limits) number(stand int) int {
	switch stand {
	case atLow:
		return x.Lo
	case atHigh:
		return x.Hi
	}
	return 0
}

// miss is the nearest given.
func (v vehicle) miss(wanted column) api.ThrustMiss {
	s := v.nearest(wanted)
	given := v.gives(s.Parts)
	den, parts := lowest(s.Den, given[:]...)
	return api.ThrustMiss{Den: den, Given: [3]int(parts)}
}
