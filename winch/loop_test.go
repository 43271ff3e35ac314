package winch_test

import (
	"math"
	"slices"
	"testing"

	"moonpool/api"
	"moonpool/winch"
)

// P2.3

func TestCheckLoop(t *testing.T) {
	greatest := api.WinchLoop{Table: slices.Repeat([]int{10}, 11), Sea: api.Range{Lo: -4, Hi: 4}, Turn: 8, Slew: 20}
	least := api.WinchLoop{Table: []int{-10}}
	for _, l := range []api.WinchLoop{exampleLoop(), stiffLoop(), greatest, least} {
		i, e := winch.CheckLoop(l)
		want(t, "CheckLoop", i, e, 0, api.OK)
	}
	for _, bad := range badLoops() {
		i, e := winch.CheckLoop(bad.loop)
		want(t, bad.name, i, e, bad.index, bad.err)
	}
}

func TestErrorsOfLoops(t *testing.T) {
	for _, bad := range badLoops() {
		s, e := winch.NextIn(bad.loop, api.WinchState{Error: 99}, 99)
		want(t, "NextIn: "+bad.name, s, e, api.WinchState{}, bad.err)
		l, e := winch.RunOf(bad.loop, make([]int, 61))
		want(t, "RunOf: "+bad.name, l, e, []api.WinchState(nil), bad.err)
		l, e = winch.ReachedBy(bad.loop)
		want(t, "ReachedBy: "+bad.name, l, e, []api.WinchState(nil), bad.err)
		is, e := winch.Holds(bad.loop)
		want(t, "Holds: "+bad.name, is, e, false, bad.err)
		i, e := winch.CheckClosed(bad.loop, []api.WinchState{{Error: 99}})
		want(t, "CheckClosed: "+bad.name, i, e, 0, bad.err)
		sea, e := winch.BrokenBy(bad.loop)
		want(t, "BrokenBy: "+bad.name, sea, e, []int(nil), bad.err)
	}
}

// badStates are states that the loop l does not have.
func badStates() []api.WinchState {
	return []api.WinchState{
		{Error: 3}, {Error: -3}, {Error: math.MinInt}, {Error: math.MaxInt},
		{Command: 11}, {Command: -11}, {Command: math.MinInt},
		{Heave: 2}, {Heave: -2}, {Heave: math.MinInt}, {Heave: math.MaxInt},
	}
}

func TestNextIn(t *testing.T) {
	l, wide := exampleLoop(), exampleLoop()
	wide.Sea = api.Range{Lo: -4, Hi: 4}
	slow := wide
	slow.Slew = 1
	for _, c := range []struct {
		name  string
		loop  api.WinchLoop
		state api.WinchState
		heave int
		next  api.WinchState
		err   api.Errno
	}{
		{"the first heave", l, api.WinchState{}, 1, api.WinchState{Error: 1, Heave: 1}, api.OK},
		{"the second heave", l, api.WinchState{Error: 1, Heave: 1}, 1, api.WinchState{Error: 1, Command: 1, Heave: 1}, api.OK},
		{"no heave", l, api.WinchState{Error: 1, Command: 1, Heave: 1}, 0, api.WinchState{Error: 0, Command: 1}, api.OK},
		{"the greatest error", l, api.WinchState{Error: 2, Heave: 0}, 1, api.WinchState{Error: 1, Command: 2, Heave: 1}, api.OK},
		{"the greatest command", l, api.WinchState{Error: 2, Command: 10}, 1, api.WinchState{}, api.ErrBreak},
		{"a slow command up", slow, api.WinchState{Error: 2, Command: -1}, 0, api.WinchState{Error: 2, Command: 0}, api.OK},
		{"a slow command down", slow, api.WinchState{Error: -2, Command: 2}, 1, api.WinchState{Error: -2, Command: 1, Heave: 1}, api.OK},
		{"a command that is near", slow, api.WinchState{Error: 2, Command: 1}, 0, api.WinchState{Error: 0, Command: 2}, api.OK},
		{"a heave out of the sea", l, api.WinchState{}, 2, api.WinchState{}, api.ErrMissing},
		{"a heave below the sea", l, api.WinchState{}, -2, api.WinchState{}, api.ErrMissing},
		{"the least int", l, api.WinchState{Heave: 1}, math.MinInt, api.WinchState{}, api.ErrMissing},
		{"the greatest int", l, api.WinchState{Heave: -1}, math.MaxInt, api.WinchState{}, api.ErrMissing},
		{"missing before clash", l, api.WinchState{Heave: -1}, 2, api.WinchState{}, api.ErrMissing},
		{"a turn that is too fast", l, api.WinchState{Error: -1, Command: -1, Heave: -1}, 1, api.WinchState{}, api.ErrClash},
		{"a turn back that is too fast", l, api.WinchState{Heave: 1}, -1, api.WinchState{}, api.ErrClash},
		{"a turn that is just permitted", wide, api.WinchState{Heave: 1}, 2, api.WinchState{Error: 2, Heave: 2}, api.OK},
		{"clash before break", wide, api.WinchState{Heave: 0}, 4, api.WinchState{}, api.ErrClash},
		{"broken above", wide, api.WinchState{Heave: 4}, 3, api.WinchState{}, api.ErrBreak},
		{"broken below", wide, api.WinchState{Heave: -4}, -3, api.WinchState{}, api.ErrBreak},
	} {
		s, e := winch.NextIn(c.loop, c.state, c.heave)
		want(t, c.name, s, e, c.next, c.err)
	}
	for _, bad := range badStates() {
		for _, heave := range []int{0, 1, 2, -5} {
			s, e := winch.NextIn(l, bad, heave)
			want(t, "NextIn of a bad state", s, e, api.WinchState{}, api.ErrRange)
		}
	}
}

// nearest is the permitted command that is nearest to a wanted one, found among all of them.
func nearest(wanted, before, slew int) int {
	best := before
	for c := before - slew; c <= before+slew; c++ {
		if max(c-wanted, wanted-c) < max(best-wanted, wanted-best) {
			best = c
		}
	}
	return best
}

func TestNextInByItsDefinition(t *testing.T) {
	r := newRandom()
	for range 60 {
		l := randomLoop(r, 3)
		for _, s := range everyState(l) {
			for heave := -5; heave <= 5; heave++ {
				c := nearest(l.Table[s.Error+boundOf(l)], s.Command, l.Slew)
				next, err := api.WinchState{Error: s.Error + heave - c, Command: c, Heave: heave}, api.OK
				switch {
				case heave < l.Sea.Lo || heave > l.Sea.Hi:
					err = api.ErrMissing
				case max(heave-s.Heave, s.Heave-heave) > l.Turn:
					err = api.ErrClash
				case next.Error > boundOf(l) || -next.Error > boundOf(l):
					err = api.ErrBreak
				}
				if err != api.OK {
					next = api.WinchState{}
				}
				if got, e := winch.NextIn(l, s, heave); got != next || e != err {
					t.Fatalf("NextIn %v, %v, %d: %v, error %d, want %v, error %d", l, s, heave, got, e, next, err)
				}
			}
		}
	}
}

func TestRunOf(t *testing.T) {
	l := exampleLoop()
	for _, c := range []struct {
		name   string
		loop   api.WinchLoop
		heaves []int
		states []api.WinchState
		err    api.Errno
	}{
		{"example", l, []int{1, 1}, []api.WinchState{{}, {Error: 1, Heave: 1}, {Error: 1, Command: 1, Heave: 1}}, api.OK},
		{"no heaves", l, nil, []api.WinchState{{}}, api.OK},
		{"stiff", stiffLoop(), []int{-1, -1}, []api.WinchState{{}, {Error: -1, Heave: -1}, {Error: -2, Heave: -1}}, api.OK},
		{"broken", stiffLoop(), []int{-1, -1, -1}, nil, api.ErrBreak},
		{"the first step with an error", stiffLoop(), []int{-1, -1, -1, 5}, nil, api.ErrBreak},
		{"missing", l, []int{0, 2}, nil, api.ErrMissing},
		{"clash", l, []int{1, -1, 9}, nil, api.ErrClash},
		{"too many heaves", l, make([]int, 61), nil, api.ErrLarge},
		{"too many heaves before their errors", l, append([]int{9}, make([]int, 60)...), nil, api.ErrLarge},
		{"the greatest number of heaves", l, make([]int, 60), make([]api.WinchState, 61), api.OK},
	} {
		s, e := winch.RunOf(c.loop, c.heaves)
		want(t, c.name, s, e, c.states, c.err)
	}
}

func TestRunIsSteps(t *testing.T) {
	r := newRandom()
	for range 2000 {
		l := randomLoop(r, api.MaxWinchBound)
		heaves := numbers(r, between(r, 0, 12), max(-4, l.Sea.Lo-r.IntN(2)), l.Sea.Hi)
		states, err := []api.WinchState{{}}, api.OK
		for _, h := range heaves {
			s, e := winch.NextIn(l, states[len(states)-1], h)
			if e != api.OK {
				states, err = nil, e
				break
			}
			states = append(states, s)
		}
		s, e := winch.RunOf(l, heaves)
		want(t, "RunOf", s, e, states, err)
	}
}

func TestStiffCommandsStayZero(t *testing.T) {
	r := newRandom()
	for range 300 {
		l := randomLoop(r, api.MaxWinchBound)
		l.Slew = 0
		states, e := winch.ReachedBy(l)
		for _, s := range states {
			if s.Command != 0 || e != api.OK {
				t.Fatalf("%v reaches %v, error %d", l, s, e)
			}
		}
	}
}
