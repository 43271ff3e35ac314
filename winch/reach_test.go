package winch_test

import (
	"slices"
	"testing"

	"moonpool/api"
	"moonpool/winch"
)

// P2.3, P2.4, P2.10, P2.11

func TestReachedBy(t *testing.T) {
	one := func(command, low, high, turn int) api.WinchLoop {
		return api.WinchLoop{Table: []int{command}, Sea: api.Range{Lo: low, Hi: high}, Turn: turn, Slew: 20}
	}
	still := api.WinchLoop{Table: []int{0, 0, 0}, Slew: 20}
	moved := api.WinchLoop{Table: []int{1, 1, 1}, Slew: 20}
	settles := api.WinchLoop{Table: []int{0, 1, 1}, Slew: 20}
	stiff := []api.WinchState{
		{Error: -2, Heave: -1}, {Error: -2},
		{Error: -1, Heave: -1}, {Error: -1}, {Error: -1, Heave: 1},
		{Heave: -1}, {}, {Heave: 1},
		{Error: 1, Heave: -1}, {Error: 1}, {Error: 1, Heave: 1},
		{Error: 2}, {Error: 2, Heave: 1},
	}
	for _, c := range []struct {
		name   string
		loop   api.WinchLoop
		states []api.WinchState
		breaks []int
	}{
		{"example", exampleLoop(), exampleStates(), nil},
		{"stiff", stiffLoop(), stiff, []int{-1, -1, -1}},
		{"one number, no sea", one(0, 0, 0, 0), []api.WinchState{{}}, nil},
		{"one number bounds the error by 0", one(0, -1, 1, 1), []api.WinchState{{}}, []int{-1}},
		{"one number that moves", one(1, 0, 0, 0), []api.WinchState{{}}, []int{0}},
		{"one number, a sea above", one(0, 0, 4, 8), []api.WinchState{{}}, []int{1}},
		{"no turn keeps the heave 0", one(0, -4, 4, 0), []api.WinchState{{}}, nil},
		{"a sea of 0 to 0 moves nothing", still, []api.WinchState{{}}, nil},
		{"a sea of 0 to 0, moved by its table", moved, []api.WinchState{{Error: -1, Command: 1}, {}}, []int{0, 0}},
		{"a table that settles", settles, []api.WinchState{{Error: -1}, {Error: -1, Command: 1}, {}}, nil},
	} {
		s, e := winch.ReachedBy(c.loop)
		want(t, "ReachedBy: "+c.name, s, e, c.states, api.OK)
		is, e := winch.Holds(c.loop)
		want(t, "Holds: "+c.name, is, e, c.breaks == nil, api.OK)
		sea, e := winch.BrokenBy(c.loop)
		err := api.ErrNone
		if c.breaks != nil {
			err = api.OK
		}
		want(t, "BrokenBy: "+c.name, sea, e, c.breaks, err)
	}
}

// before is whether a state comes before another one.
func before(a, b api.WinchState) bool {
	if a.Error != b.Error {
		return a.Error < b.Error
	}
	if a.Command != b.Command {
		return a.Command < b.Command
	}
	return a.Heave < b.Heave
}

// grown is all states that steps lead to, found by adding next ones until there are no more, and whether none of them breaks.
func grown(l api.WinchLoop) ([]api.WinchState, bool) {
	in, holds := map[api.WinchState]bool{{}: true}, true
	for size := 0; size < len(in); {
		size = len(in)
		for _, s := range everyState(l) {
			for heave := l.Sea.Lo; in[s] && heave <= l.Sea.Hi; heave++ {
				next, e := winch.NextIn(l, s, heave)
				if e == api.OK {
					in[next] = true
				}
				holds = holds && e != api.ErrBreak
			}
		}
	}
	var states []api.WinchState
	for _, s := range everyState(l) {
		if in[s] {
			states = append(states, s)
		}
	}
	return states, holds
}

func TestReachedStatesAreAll(t *testing.T) {
	r := newRandom()
	held := 0
	for range 300 {
		l := randomLoop(r, 3)
		states, holds := grown(l)
		s, e := winch.ReachedBy(l)
		want(t, "ReachedBy", s, e, states, api.OK)
		is, e := winch.Holds(l)
		want(t, "Holds", is, e, holds, api.OK)
		for i := 1; i < len(s); i++ {
			if !before(s[i-1], s[i]) {
				t.Errorf("%v: %v is not before %v", l, s[i-1], s[i])
			}
		}
		if holds {
			held++
		}
	}
	if held < 30 || held > 270 {
		t.Errorf("%d of 300 loops hold: too few of one kind are tested", held)
	}
}

// firstBreaking is the lexicographically first sea of so many heaves that breaks a loop, found among all of them (nil: none).
func firstBreaking(l api.WinchLoop, s api.WinchState, ticks int) []int {
	for heave := l.Sea.Lo; ticks > 0 && heave <= l.Sea.Hi; heave++ {
		next, e := winch.NextIn(l, s, heave)
		if e == api.ErrBreak && ticks == 1 {
			return []int{heave}
		}
		if e != api.OK {
			continue
		}
		if rest := firstBreaking(l, next, ticks-1); rest != nil {
			return append([]int{heave}, rest...)
		}
	}
	return nil
}

func TestShortestSeas(t *testing.T) {
	r := newRandom()
	lengths := map[int]bool{}
	for range 1500 {
		l := randomLoop(r, api.MaxWinchBound)
		if r.IntN(2) == 0 {
			l.Slew = r.IntN(2)
		}
		sea, e := winch.BrokenBy(l)
		var first []int
		for ticks := 1; ticks <= 6 && first == nil; ticks++ {
			first = firstBreaking(l, api.WinchState{}, ticks)
		}
		if first != nil {
			want(t, "BrokenBy", sea, e, first, api.OK)
		} else if e == api.OK && len(sea) <= 6 {
			t.Errorf("BrokenBy %v: %v, but no sea of at most 6 heaves breaks it", l, sea)
		}
		lengths[len(sea)] = true
	}
	for ticks := range 8 {
		if !lengths[ticks] {
			t.Errorf("no loop was tested that %d heaves break", ticks)
		}
	}
}

func TestHeldOrBroken(t *testing.T) {
	r := newRandom()
	for range 1500 {
		l := randomLoop(r, api.MaxWinchBound)
		states, e := winch.ReachedBy(l)
		want(t, "the beginning is reached", slices.Contains(states, api.WinchState{}), e, true, api.OK)
		i, closed := winch.CheckClosed(l, states)
		sea, e := winch.BrokenBy(l)
		is, _ := winch.Holds(l)
		if is {
			want(t, "CheckClosed of a loop that holds", i, closed, 0, api.OK)
			want(t, "BrokenBy of a loop that holds", sea, e, []int(nil), api.ErrNone)
			continue
		}
		want(t, "CheckClosed of a loop that breaks", 0, closed, 0, api.ErrBreak)
		if e != api.OK || len(sea) == 0 || len(sea) > api.MaxWinchHeaves {
			t.Fatalf("BrokenBy %v: %v, error %d", l, sea, e)
		}
		run, e := winch.RunOf(l, sea[:len(sea)-1])
		want(t, "states of RunOf without the last heave", len(run), e, len(sea), api.OK)
		run, e = winch.RunOf(l, sea)
		want(t, "RunOf", run, e, []api.WinchState(nil), api.ErrBreak)
	}
}

func TestErrorsStayWithinTheBound(t *testing.T) {
	r := newRandom()
	for range 300 {
		l := holding(r)
		var heaves []int
		last := 0
		for range api.MaxWinchHeaves {
			last = between(r, max(l.Sea.Lo, last-l.Turn), min(l.Sea.Hi, last+l.Turn))
			heaves = append(heaves, last)
		}
		run, e := winch.RunOf(l, heaves)
		want(t, "states of RunOf", len(run), e, len(heaves)+1, api.OK)
		reached, _ := winch.ReachedBy(l)
		for _, s := range run {
			if s.Error > boundOf(l) || -s.Error > boundOf(l) || !slices.Contains(reached, s) {
				t.Fatalf("%v: %v is not among the reached states", l, s)
			}
		}
	}
}

func TestSmallerSeas(t *testing.T) {
	r := newRandom()
	for range 500 {
		l := holding(r)
		l.Sea = api.Range{Lo: between(r, l.Sea.Lo, 0), Hi: between(r, 0, l.Sea.Hi)}
		is, e := winch.Holds(l)
		want(t, "Holds for a smaller sea", is, e, true, api.OK)
		l.Turn = between(r, 0, l.Turn)
		is, e = winch.Holds(l)
		want(t, "Holds for a smaller turn", is, e, true, api.OK)
	}
}
