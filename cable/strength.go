package cable

import (
	"moonpool/api"
	"moonpool/rules"
)

// StrongestIn is in P1.4.
func StrongestIn(l api.CableLine, currents []int) (int, int, api.Errno) {
	tensions, e := TensionsOf(l, currents)
	if e != api.OK {
		return 0, 0, e
	}
	strongest, greatest := 0, square(tensions[0])
	for i, t := range tensions {
		if s := square(t); s > greatest {
			strongest, greatest = i, s
		}
	}
	return strongest, greatest, api.OK
}

// BrokenIn is in P1.4.
func BrokenIn(l api.CableLine, currents, strengths []int) ([]int, api.Errno) {
	tensions, e := TensionsOf(l, currents)
	if e != api.OK {
		return nil, e
	}
	if e := strengthsError(l, strengths); e != api.OK {
		return nil, e
	}
	var broken []int
	for i, t := range tensions {
		if square(t) > strengths[i]*strengths[i] {
			broken = append(broken, i)
		}
	}
	return broken, api.OK
}

func strengthsError(l api.CableLine, strengths []int) api.Errno {
	if len(strengths) != len(l.Links) {
		return api.ErrShape
	}
	_, e := rules.FirstBad(strengths, func(s int) api.Errno { return rules.LimitError(s, 0, api.MaxCableStrength) })
	return e
}

// BendsOf is in P1.4.
func BendsOf(l api.CableLine, currents []int) ([]api.Frac, api.Errno) {
	if e := shapeError(l, currents); e != api.OK {
		return nil, e
	}
	tensions, e := TensionsOf(l, currents)
	if e != api.OK {
		return nil, e
	}
	var bends []api.Frac
	for i, upper := range tensions[1:] {
		bends = append(bends, bend(tensions[i], upper))
	}
	return bends, api.OK
}

// SharpestIn is in P1.4.
func SharpestIn(l api.CableLine, currents []int) (int, api.Frac, api.Errno) {
	bends, e := BendsOf(l, currents)
	if e != api.OK {
		return 0, api.Frac{}, e
	}
	if len(bends) == 0 {
		return 0, api.Frac{}, api.ErrNone
	}
	sharpest := 0
	for i, b := range bends {
		if greater(b, bends[sharpest]) {
			sharpest = i
		}
	}
	return sharpest, bends[sharpest], api.OK
}

// square is that of a tension.
func square(t api.CableForce) int { return t.X*t.X + t.Z*t.Z }

// bend is that between the tensions of two links that are not slack.
// Parts of tensions are at most 20000 in size, so that both parts of the bend are below 2^60.
func bend(lower, upper api.CableForce) api.Frac {
	across := lower.X*upper.Z - upper.X*lower.Z
	return rules.Lowest(across*across, square(lower)*square(upper))
}
