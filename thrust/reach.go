package thrust

import (
	"slices"

	"moonpool/api"
	"moonpool/rules"
)

// SupportOf is in P3.4.
func SupportOf(l []api.Thruster, direction [3]int) (int, api.Errno) {
	if e := rules.FirstError(thrustersError(l), directionError(direction)); e != api.OK {
		return 0, e
	}
	return newVehicle(l).support(direction), api.OK
}

// IsReachable is in P3.4.
func IsReachable(l []api.Thruster, wanted [3]int) (bool, api.Errno) {
	if e := rankError(l, wanted); e != api.OK {
		return false, e
	}
	return newVehicle(l).reaches(wanted), api.OK
}

// CutOf is in P3.4.
func CutOf(l []api.Thruster, wanted [3]int) ([3]int, api.Errno) {
	if e := rankError(l, wanted); e != api.OK {
		return [3]int{}, e
	}
	cuts := newVehicle(l).cuts(wanted)
	if len(cuts) == 0 {
		return [3]int{}, api.ErrNone
	}
	first := func(a, b column) int { return slices.Compare(a[:], b[:]) }
	return slices.MinFunc(cuts, first), api.OK
}

// CheckCut is in P3.4.
func CheckCut(l []api.Thruster, wanted, direction [3]int) (int, api.Errno) {
	e := rules.FirstError(thrustersError(l), wantedError(wanted), directionError(direction))
	if e != api.OK {
		return 0, e
	}
	excess := newVehicle(l).excess(wanted, direction)
	if excess <= 0 {
		return 0, api.ErrProof
	}
	return excess, api.OK
}

// support is that of a direction.
func (v vehicle) support(direction column) int {
	sum := 0
	for _, t := range v {
		product := t.product(direction)
		sum += max(product*t.Lo, product*t.Hi)
	}
	return sum
}

// excess is by how much the product of a wanted force and a direction is greater than the support.
func (v vehicle) excess(wanted, direction column) int {
	return direction.product(wanted) - v.support(direction)
}

// reaches is whether some setting within limits gives a force exactly. It holds for any rank.
func (v vehicle) reaches(wanted column) bool {
	miss := v.miss(wanted)
	return miss.Den == 1 && miss.Given == wanted
}

func (v vehicle) reachesAll(wanted [][3]int) bool {
	for _, w := range wanted {
		if !v.reaches(w) {
			return false
		}
	}
	return true
}

// cuts are those for a wanted force among the cross products of two columns, and their opposites.
func (v vehicle) cuts(wanted column) []column {
	var cuts []column
	for pair := range sets(len(v), 2) {
		normal := v[pair[0]].cross(v[pair[1]].column)
		if normal == (column{}) {
			continue
		}
		most := rules.Divisor(normal[:]...)
		for _, by := range [2]int{most, -most} {
			direction := column{normal[0] / by, normal[1] / by, normal[2] / by}
			if v.excess(wanted, direction) > 0 {
				cuts = append(cuts, direction)
			}
		}
	}
	return cuts
}
