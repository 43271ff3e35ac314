package winch

import (
	"iter"
	"slices"

	"moonpool/api"
)

// visit is a state that heaves lead to, and the visit before it (nil for the beginning).
type visit struct {
	api.WinchState
	before *visit
}

// ReachedBy is in P2.3.
func ReachedBy(l api.WinchLoop) ([]api.WinchState, api.Errno) {
	if e := loopError(l); e != api.OK {
		return nil, e
	}
	x := loop{l}
	var states []api.WinchState
	for v := range x.visits() {
		if !x.breaks(v.WinchState) {
			states = append(states, v.WinchState)
		}
	}
	slices.SortFunc(states, compareStates)
	return states, api.OK
}

// Holds is in P2.3.
func Holds(l api.WinchLoop) (bool, api.Errno) {
	if e := loopError(l); e != api.OK {
		return false, e
	}
	return loop{l}.broken() == nil, api.OK
}

// BrokenBy is in P2.4.
func BrokenBy(l api.WinchLoop) ([]int, api.Errno) {
	if e := loopError(l); e != api.OK {
		return nil, e
	}
	v := loop{l}.broken()
	if v == nil {
		return nil, api.ErrNone
	}
	return v.sea(), api.OK
}

// visits yields each reached state, and each broken one that may follow, once: by the shortest sea that leads to it, of several the first one.
// Its order is that of these seas, because heaves ascend, and what was reached first goes on first.
func (l loop) visits() iter.Seq[*visit] {
	return func(yield func(v *visit) bool) {
		waiting := []*visit{{}}
		known := map[api.WinchState]bool{{}: true}
		for len(waiting) > 0 {
			v := waiting[0]
			waiting = waiting[1:]
			if !yield(v) {
				return
			}
			if l.breaks(v.WinchState) {
				continue
			}
			for next := range l.nexts(v.WinchState) {
				if !known[next] {
					known[next] = true
					waiting = append(waiting, &visit{next, v})
				}
			}
		}
	}
}

// broken is the first broken visit, or nil if the loop holds.
func (l loop) broken() *visit {
	for v := range l.visits() {
		if l.breaks(v.WinchState) {
			return v
		}
	}
	return nil
}

// sea is the heaves that lead to a visit.
func (v *visit) sea() []int {
	var heaves []int
	for ; v.before != nil; v = v.before {
		heaves = append(heaves, v.Heave)
	}
	slices.Reverse(heaves)
	return heaves
}
