package thrust

import (
	"moonpool/api"
	"moonpool/rules"
)

// WholeNear is in P3.6.
func WholeNear(l []api.Thruster, s api.ThrustSetting) ([]int, api.Errno) {
	if e := rules.FirstError(thrustersError(l), partsError(l, s)); e != api.OK {
		return nil, e
	}
	whole := make([]int, len(l))
	for i, t := range newVehicle(l) {
		whole[i] = t.near(s.Parts[i], s.Den)
	}
	return whole, api.OK
}

// near is the whole number near a fraction that can be given.
func (x limits) near(num, den int) int {
	n := min(max(rounded(num, den), x.Lo), x.Hi)
	if !x.isDead(n) {
		return n
	}
	least := x.dead
	if n < 0 {
		least = -x.dead
	}
	if rules.Within(2*n, x.dead-1) || !x.holds(least, 1) {
		return 0
	}
	return least
}
