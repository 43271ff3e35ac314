package cable

import "moonpool/api"

// TensionsOf is in P1.2.
func TensionsOf(l api.CableLine, currents []int) ([]api.CableForce, api.Errno) {
	if e := currentsError(l, currents); e != api.OK {
		return nil, e
	}
	var tensions []api.CableForce
	for p := range (line{l}).pulls(still(currents)) {
		tensions = append(tensions, api.CableForce{X: p.X.Lo, Z: p.Z})
	}
	return tensions, api.OK
}

// CheckBalance is in P1.2. It adds to the tension below, which is accepted and so small, because a difference of given tensions might overflow.
func CheckBalance(l api.CableLine, currents []int, t []api.CableForce) (int, api.Errno) {
	if e := currentsError(l, currents); e != api.OK {
		return 0, e
	}
	if len(t) != len(l.Links) {
		return 0, api.ErrShape
	}
	below := l.Load
	for i, k := range l.Links {
		balanced := api.CableForce{X: below.X + k.Drag*currents[i], Z: below.Z + k.Weight}
		if t[i] != balanced {
			return i, api.ErrProof
		}
		below = balanced
	}
	return 0, api.OK
}

// SlackIn is in P1.2.
func SlackIn(l api.CableLine) ([]int, api.Errno) {
	if e := lineError(l); e != api.OK {
		return nil, e
	}
	var slack []int
	for i, z := range (line{l}).lifts() {
		if z <= 0 {
			slack = append(slack, i)
		}
	}
	return slack, api.OK
}

// LeastLoad is in P1.2.
func LeastLoad(l api.CableLine) (int, api.Errno) {
	if e := lineError(l); e != api.OK {
		return 0, e
	}
	least := l.Load.Z + l.Links[0].Weight
	for _, z := range (line{l}).lifts() {
		least = min(least, z)
	}
	return l.Load.Z - least + 1, api.OK
}
