package thrust

import (
	"iter"
	"slices"

	"moonpool/api"
	"moonpool/rules"
)

// WeakTo is in P3.5.
func WeakTo(l []api.Thruster, wanted [][3]int, failures int) ([]int, api.Errno) {
	e := rules.FirstError(thrustersError(l), wantsError(wanted), rules.LimitError(failures, 0, api.MaxThrustFailures))
	if e != api.OK {
		return nil, e
	}
	v := newVehicle(l)
	return smallest(len(v), failures, func(failed []int) bool {
		working := v.those(func(i int) bool { return !slices.Contains(failed, i) })
		return !working.reachesAll(wanted)
	})
}

// EnoughFor is in P3.5.
func EnoughFor(l []api.Thruster, wanted [][3]int) ([]int, api.Errno) {
	if e := rules.FirstError(thrustersError(l), wantsError(wanted)); e != api.OK {
		return nil, e
	}
	v := newVehicle(l)
	return smallest(len(v), len(v), func(working []int) bool {
		return v.those(func(i int) bool { return slices.Contains(working, i) }).reachesAll(wanted)
	})
}

// those is the vehicle with some of its thrusters alone: what has failed gives nothing, as if it was not there.
func (v vehicle) those(such func(i int) bool) vehicle {
	var some vehicle
	for i, t := range v {
		if such(i) {
			some = append(some, t)
		}
	}
	return some
}

// smallest is the smallest such set of at most most of the numbers below count, of several the first one, or ErrNone.
func smallest(count, most int, such func(set []int) bool) ([]int, api.Errno) {
	for size := range most + 1 {
		for set := range sets(count, size) {
			if such(set) {
				return set, api.OK
			}
		}
	}
	return nil, api.ErrNone
}

// sets yields all sets of so many of the numbers below count, in lexicographic order.
func sets(count, size int) iter.Seq[[]int] {
	return func(yield func(set []int) bool) { grow(nil, count, size, yield) }
}

// grow yields all sets that begin with the given numbers, and returns whether more are asked for.
func grow(set []int, count, size int, yield func(set []int) bool) bool {
	if len(set) == size {
		return yield(slices.Clone(set))
	}
	least := 0
	if len(set) > 0 {
		least = set[len(set)-1] + 1
	}
	for n := least; n < count; n++ {
		if !grow(append(set, n), count, size, yield) {
			return false
		}
	}
	return true
}
