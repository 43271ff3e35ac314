package winch

import (
	"cmp"
	"iter"

	"moonpool/api"
	"moonpool/rules"
)

// loop is a given loop, with what follows from it.
type loop struct{ api.WinchLoop }

// CheckLoop is in P2.3.
func CheckLoop(l api.WinchLoop) (int, api.Errno) {
	if len(l.Table)%2 == 0 {
		return 0, api.ErrShape
	}
	if len(l.Table) > 2*api.MaxWinchBound+1 {
		return 0, api.ErrLarge
	}
	i, e := rules.FirstBad(l.Table, func(command int) api.Errno { return rules.SizeError(api.MaxWinchCommand, command) })
	if e != api.OK {
		return i, e
	}
	e = rules.FirstError(
		rules.SizeError(api.MaxWinchSea, l.Sea.Lo, l.Sea.Hi),
		rules.LimitError(l.Turn, 0, 2*api.MaxWinchSea),
		rules.LimitError(l.Slew, 0, 2*api.MaxWinchCommand),
	)
	if e == api.OK && !(loop{l}).permits(0) {
		return 0, api.ErrOrder
	}
	return 0, e
}

// NextIn is in P2.3.
func NextIn(l api.WinchLoop, s api.WinchState, heave int) (api.WinchState, api.Errno) {
	if e := rules.FirstError(loopError(l), loop{l}.stateError(s)); e != api.OK {
		return api.WinchState{}, e
	}
	return loop{l}.step(s, heave)
}

// RunOf is in P2.3.
func RunOf(l api.WinchLoop, heaves []int) ([]api.WinchState, api.Errno) {
	if e := loopError(l); e != api.OK {
		return nil, e
	}
	if len(heaves) > api.MaxWinchHeaves {
		return nil, api.ErrLarge
	}
	states := []api.WinchState{{}}
	for i, heave := range heaves {
		s, e := loop{l}.step(states[i], heave)
		if e != api.OK {
			return nil, e
		}
		states = append(states, s)
	}
	return states, api.OK
}

func loopError(l api.WinchLoop) api.Errno {
	_, e := CheckLoop(l)
	return e
}

// stateError is the error of a state. It may be asked of a loop that is not valid.
func (l loop) stateError(s api.WinchState) api.Errno {
	return rules.FirstError(
		rules.SizeError(l.bound(), s.Error),
		rules.SizeError(api.MaxWinchCommand, s.Command),
		rules.LimitError(s.Heave, l.Sea.Lo, l.Sea.Hi),
	)
}

// bound is the greatest size of an error.
func (l loop) bound() int { return (len(l.Table) - 1) / 2 }

// permits is whether a heave is one of the sea.
func (l loop) permits(heave int) bool { return l.Sea.Lo <= heave && heave <= l.Sea.Hi }

// step is the next state after any heave, with its errors.
func (l loop) step(s api.WinchState, heave int) (api.WinchState, api.Errno) {
	if !l.permits(heave) {
		return api.WinchState{}, api.ErrMissing
	}
	if !rules.Within(heave-s.Heave, l.Turn) {
		return api.WinchState{}, api.ErrClash
	}
	next := l.next(s, heave)
	if l.breaks(next) {
		return api.WinchState{}, api.ErrBreak
	}
	return next, api.OK
}

// next is the next state after a permitted heave, broken or not.
func (l loop) next(s api.WinchState, heave int) api.WinchState {
	wanted := l.Table[s.Error+l.bound()]
	command := min(max(wanted, s.Command-l.Slew), s.Command+l.Slew)
	return api.WinchState{Error: s.Error + heave - command, Command: command, Heave: heave}
}

// breaks is whether a state is broken.
func (l loop) breaks(s api.WinchState) bool { return !rules.Within(s.Error, l.bound()) }

// nexts yields all next states of a state, broken or not, by the heaves that may follow, ascending.
func (l loop) nexts(s api.WinchState) iter.Seq[api.WinchState] {
	return func(yield func(next api.WinchState) bool) {
		for heave := max(l.Sea.Lo, s.Heave-l.Turn); heave <= min(l.Sea.Hi, s.Heave+l.Turn); heave++ {
			if !yield(l.next(s, heave)) {
				return
			}
		}
	}
}

// leads is whether some heave leads from a state to such a next one.
func (l loop) leads(s api.WinchState, such func(next api.WinchState) bool) bool {
	for next := range l.nexts(s) {
		if such(next) {
			return true
		}
	}
	return false
}

// compareStates is the order of states.
func compareStates(a, b api.WinchState) int {
	return cmp.Or(cmp.Compare(a.Error, b.Error), cmp.Compare(a.Command, b.Command), cmp.Compare(a.Heave, b.Heave))
}
