package winch_test

import (
	"slices"
	"testing"

	"moonpool/api"
	"moonpool/winch"
)

// P2.4, P2.10

func TestCheckClosed(t *testing.T) {
	l, states := exampleLoop(), exampleStates()
	without := func(i int) []api.WinchState { return slices.Delete(exampleStates(), i, i+1) }
	with := func(i int, s api.WinchState) []api.WinchState { return slices.Insert(exampleStates(), i, s) }
	none := api.WinchLoop{Table: []int{0, 0, 0}, Slew: 20}
	for _, c := range []struct {
		name   string
		loop   api.WinchLoop
		states []api.WinchState
		index  int
		err    api.Errno
	}{
		{"example", l, states, 0, api.OK},
		{"more than what is reached", l, with(0, api.WinchState{Error: -1, Command: -2, Heave: -1}), 0, api.OK},
		{"one state alone", none, []api.WinchState{{}}, 0, api.OK},
		{"every state that stays", none, []api.WinchState{{Error: -1}, {}, {Error: 1}}, 0, api.OK},
		{"no states", l, nil, 0, api.ErrMissing},
		{"the beginning is missing", l, without(3), 0, api.ErrMissing},
		{"a beginning with another heave", l, []api.WinchState{{Heave: -1}, {Heave: 1}}, 0, api.ErrMissing},
		{"without the last one", l, states[:6], 5, api.ErrOpen},
		{"without the first one", l, states[1:], 0, api.ErrOpen},
		{"without an earlier one", l, without(1), 1, api.ErrOpen},
		{"the first open state, not the missing one", l, without(5), 2, api.ErrOpen},
		{"the beginning alone", l, []api.WinchState{{}}, 0, api.ErrOpen},
		{"twice", l, with(4, api.WinchState{}), 4, api.ErrOrder},
		{"errors in the wrong order", l, []api.WinchState{{Error: 1}, {}}, 1, api.ErrOrder},
		{"commands in the wrong order", l, []api.WinchState{{}, {Command: -1}}, 1, api.ErrOrder},
		{"heaves in the wrong order", l, []api.WinchState{{}, {Heave: -1}}, 1, api.ErrOrder},
		{"the error counts before the command", l, []api.WinchState{{Command: 1}, {Error: -1}}, 1, api.ErrOrder},
		{"the command counts before the heave", l, []api.WinchState{{Heave: 1}, {Command: -1}}, 1, api.ErrOrder},
		{"range before order", l, []api.WinchState{{}, {Error: -3}}, 1, api.ErrRange},
		{"order before a later range", l, []api.WinchState{{}, {}, {Error: 3}}, 1, api.ErrOrder},
		{"range before missing", l, []api.WinchState{{Error: 3}}, 0, api.ErrRange},
		{"order before missing", l, []api.WinchState{{Error: 1}, {Error: 1}}, 1, api.ErrOrder},
		{"missing before break", l, []api.WinchState{{Error: 2, Command: -10}}, 0, api.ErrMissing},
		{"broken", l, with(7, api.WinchState{Error: 2, Command: -10}), 7, api.ErrBreak},
		{"a break after an open state", l, []api.WinchState{{}, {Error: 2, Command: -10}}, 0, api.ErrOpen},
		{"a break before an open state", l, []api.WinchState{{Error: -2, Command: 10}, {}}, 0, api.ErrBreak},
	} {
		i, e := winch.CheckClosed(c.loop, c.states)
		want(t, c.name, i, e, c.index, c.err)
	}
	for _, bad := range badStates() {
		i, e := winch.CheckClosed(l, []api.WinchState{{Error: -2}, bad})
		want(t, "CheckClosed of a bad state", i, e, 1, api.ErrRange)
	}
}

func TestBreakBeforeOpen(t *testing.T) {
	l := api.WinchLoop{Table: []int{0, 0, 0}, Sea: api.Range{Lo: 0, Hi: 1}, Turn: 1}
	i, e := winch.CheckClosed(l, []api.WinchState{{}, {Error: 1}, {Error: 1, Heave: 1}})
	want(t, "the last heave breaks", i, e, 1, api.ErrBreak)
	i, e = winch.CheckClosed(l, []api.WinchState{{}, {Heave: 1}, {Error: 1, Heave: 1}})
	want(t, "the first heave opens, the last one breaks", i, e, 2, api.ErrBreak)
	l.Sea = api.Range{Lo: -1, Hi: 0}
	i, e = winch.CheckClosed(l, []api.WinchState{{Error: -1, Heave: -1}, {}})
	want(t, "the first heave breaks, the last one opens", i, e, 0, api.ErrBreak)
	i, e = winch.CheckClosed(l, []api.WinchState{{Heave: -1}, {}})
	want(t, "no heave breaks", i, e, 0, api.ErrOpen)
}

func TestClosedSetsOnly(t *testing.T) {
	r := newRandom()
	refused := 0
	for range 400 {
		l := holding(r)
		states, _ := winch.ReachedBy(l)
		out := r.IntN(len(states))
		set := slices.Delete(slices.Clone(states), out, out+1)
		i, e := winch.CheckClosed(l, set)
		if states[out] == (api.WinchState{}) {
			want(t, "without the beginning", i, e, 0, api.ErrMissing)
			continue
		}
		want(t, "without a reached state", e, e, api.ErrOpen, api.ErrOpen)
		leads := false
		for heave := l.Sea.Lo; heave <= l.Sea.Hi; heave++ {
			next, err := winch.NextIn(l, set[i], heave)
			leads = leads || err == api.OK && next == states[out]
		}
		if !leads {
			t.Errorf("%v: %v does not lead to the missing state %v", l, set[i], states[out])
		}
		refused++
	}
	if refused < 100 {
		t.Errorf("%d open sets alone were tested", refused)
	}
}
