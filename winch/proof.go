package winch

import "moonpool/api"

// CheckClosed is in P2.4.
func CheckClosed(l api.WinchLoop, states []api.WinchState) (int, api.Errno) {
	if e := loopError(l); e != api.OK {
		return 0, e
	}
	x := loop{l}
	if i, e := x.statesError(states); e != api.OK {
		return i, e
	}
	in := map[api.WinchState]bool{}
	for _, s := range states {
		in[s] = true
	}
	if !in[api.WinchState{}] {
		return 0, api.ErrMissing
	}
	for i, s := range states {
		if x.leads(s, x.breaks) {
			return i, api.ErrBreak
		}
		if x.leads(s, func(next api.WinchState) bool { return !in[next] }) {
			return i, api.ErrOpen
		}
	}
	return 0, api.OK
}

// statesError finds the first state that has an error, or that does not come after the one before.
func (l loop) statesError(states []api.WinchState) (int, api.Errno) {
	for i, s := range states {
		if e := l.stateError(s); e != api.OK {
			return i, e
		}
		if i > 0 && compareStates(states[i-1], s) >= 0 {
			return i, api.ErrOrder
		}
	}
	return 0, api.OK
}
