package dive_test

import (
	"fmt"
	"math"
	"testing"

	"moonpool/api"
	"moonpool/dive"
)

// P8.3, P8.8, P8.9

func TestStepBy(t *testing.T) {
	slack := changed(func(d *api.DiveSite) {
		d.Tasks[0].Duration, d.Tides = 0, []api.DiveTide{tideOf(0, 9, 7)}
		d.Travel[1][0] = 11
	})
	for _, c := range []struct {
		name  string
		site  api.DiveSite
		state api.DiveState
		task  int
		after api.DiveState
	}{
		{"example 1", exampleSite(), exampleState(), 0, stateOf(1, 30, 250, 2, 0)},
		{"example 2, which waits", exampleSite(), stateOf(1, 30, 250, 2, 0), 1, stateOf(2, 90, 180, 1, 0, 1)},
		{"exactly enough oil for a task whose other one is done", exampleSite(), stateOf(1, 30, 250, 2, 0), 2, stateOf(1, 40, 230, 0, 0, 2)},
		{"exactly as the window opens, between two that are done", exampleSite(), stateOf(0, 60, 300, 6, 0, 2), 1, stateOf(2, 90, 250, 5, 0, 1, 2)},
		{"before those that are done", exampleSite(), stateOf(0, 0, 300, 6, 1, 2), 0, stateOf(1, 30, 250, 2, 0, 1, 2)},
		{"exactly as the window shuts", exampleSite(), stateOf(0, 70, 300, 6), 1, stateOf(2, 100, 250, 5, 1)},
		{"in a tide", exampleSite(), stateOf(2, 150, 300, 6), 0, stateOf(1, 185, 240, 2, 0)},
		{"into a tide", exampleSite(), stateOf(2, 99, 300, 6), 0, stateOf(1, 129, 250, 2, 0)},
		{"out of a tide", exampleSite(), stateOf(2, 199, 300, 6), 0, stateOf(1, 234, 240, 2, 0)},
		{"a swim of 0 ticks in a tide", exampleSite(), stateOf(1, 150, 300, 6), 0, stateOf(1, 170, 270, 2, 0)},
		{"a task of no duration", slack, stateOf(1, 5, 300, 6), 0, stateOf(1, 5, 270, 2, 0)},
		{"a swim that is longer back", slack, stateOf(0, 0, 300, 6), 0, stateOf(1, 17, 236, 2, 0)},
		{"exactly the reserve", exampleSite(), stateOf(0, 0, 150, 6), 0, stateOf(1, 30, 100, 2, 0)},
		{"exactly the reserve after waiting", exampleSite(), stateOf(0, 0, 230, 6), 1, stateOf(2, 90, 120, 5, 1)},
		{"exactly the end", changed(func(d *api.DiveSite) { d.End = 70 }), exampleState(), 0, stateOf(1, 30, 250, 2, 0)},
		{"from where it cannot return", changed(func(d *api.DiveSite) { d.Home[0] = 10000 }), exampleState(), 0, stateOf(1, 30, 250, 2, 0)},
	} {
		s, e := dive.StepBy(c.site, c.state, c.task)
		want(t, "StepBy: "+c.name, s, e, c.after, api.OK)
	}
}

func TestErrorsOfSteps(t *testing.T) {
	late := changed(func(d *api.DiveSite) { d.Tides[0] = tideOf(70, 70, 1) })
	for _, c := range []struct {
		name  string
		site  api.DiveSite
		state api.DiveState
		task  int
		err   api.Errno
	}{
		{"no such task", exampleSite(), exampleState(), 3, api.ErrMissing},
		{"the task -1", exampleSite(), exampleState(), -1, api.ErrMissing},
		{"the greatest task", exampleSite(), exampleState(), math.MaxInt, api.ErrMissing},
		{"the least task", exampleSite(), exampleState(), math.MinInt, api.ErrMissing},
		{"no tasks", changed(func(d *api.DiveSite) { d.Tasks = nil }), exampleState(), 0, api.ErrMissing},
		{"a task that is done", exampleSite(), stateOf(0, 0, 300, 6, 0, 1), 1, api.ErrDouble},
		{"done before needed", exampleSite(), stateOf(0, 0, 300, 6, 2), 2, api.ErrDouble},
		{"a task that needs another one", exampleSite(), exampleState(), 2, api.ErrOrder},
		{"a task that needs another one than is done", exampleSite(), stateOf(0, 0, 300, 6, 1), 2, api.ErrOrder},
		{"needed before late", exampleSite(), stateOf(0, 399, 300, 6), 2, api.ErrOrder},
		{"late", exampleSite(), stateOf(0, 71, 300, 6), 1, api.ErrBreak},
		{"late by a tide", late, stateOf(0, 70, 300, 6), 1, api.ErrBreak},
		{"late without a swim", exampleSite(), stateOf(2, 91, 300, 6), 1, api.ErrBreak},
		{"late before oil", exampleSite(), stateOf(0, 71, 300, 0), 1, api.ErrBreak},
		{"too little oil", exampleSite(), stateOf(0, 0, 300, 3), 0, api.ErrZero},
		{"oil before the return", exampleSite(), stateOf(0, 0, 149, 3), 0, api.ErrZero},
		{"example 2", exampleSite(), stateOf(2, 90, 180, 1, 0, 1), 2, api.ErrZero},
		{"too little power", exampleSite(), stateOf(0, 0, 149, 6), 0, api.ErrRefused},
		{"no power", exampleSite(), stateOf(0, 0, 0, 6), 0, api.ErrRefused},
		{"too little power after waiting", exampleSite(), stateOf(0, 0, 229, 6), 1, api.ErrRefused},
		{"after the end", changed(func(d *api.DiveSite) { d.End = 69 }), exampleState(), 0, api.ErrRefused},
	} {
		s, e := dive.StepBy(c.site, c.state, c.task)
		want(t, "StepBy: "+c.name, s, e, api.DiveState{}, c.err)
	}
}

func TestStatesOfAndCheckPlan(t *testing.T) {
	one, two := stateOf(1, 30, 250, 2, 0), stateOf(2, 90, 180, 1, 0, 1)
	poor := stateOf(0, 0, 0, 6)
	for _, c := range []struct {
		name   string
		state  api.DiveState
		plan   []int
		states []api.DiveState
		value  int
		err    api.Errno
	}{
		{"nothing", exampleState(), nil, []api.DiveState{exampleState()}, 0, api.OK},
		{"nothing, from where it cannot return", poor, []int{}, []api.DiveState{poor}, 0, api.OK},
		{"nothing, with a task that is done", one, nil, []api.DiveState{one}, 0, api.OK},
		{"one step", exampleState(), []int{0}, []api.DiveState{exampleState(), one}, 50, api.OK},
		{"example 2", exampleState(), []int{0, 1}, []api.DiveState{exampleState(), one, two}, 80, api.OK},
		{"example 4", exampleState(), []int{0, 2}, []api.DiveState{exampleState(), one, stateOf(1, 40, 230, 0, 0, 2)}, 90, api.OK},
		{"a task after one that is done", one, []int{1}, []api.DiveState{one, two}, 30, api.OK},
		{"too little oil", exampleState(), []int{0, 1, 2}, nil, 2, api.ErrZero},
		{"a task that is needed", exampleState(), []int{2, 0}, nil, 0, api.ErrOrder},
		{"no such task", exampleState(), []int{0, 3}, nil, 1, api.ErrMissing},
		{"a task twice", exampleState(), []int{0, 0}, nil, 1, api.ErrDouble},
		{"a task that is done", one, []int{1, 0}, nil, 1, api.ErrDouble},
		{"late", stateOf(0, 60, 300, 6), []int{0, 1}, nil, 1, api.ErrBreak},
		{"errors in their order", exampleState(), []int{2, 3}, nil, 0, api.ErrOrder},
		{"power", poor, []int{0}, nil, 0, api.ErrRefused},
		{"many tasks", exampleState(), make([]int, 100000), nil, 1, api.ErrDouble},
	} {
		l, e := dive.StatesOf(exampleSite(), c.state, c.plan)
		want(t, "StatesOf: "+c.name, l, e, c.states, c.err)
		n, e := dive.CheckPlan(exampleSite(), c.state, c.plan)
		want(t, "CheckPlan: "+c.name, n, e, c.value, c.err)
	}
}

func TestValueOf(t *testing.T) {
	for _, c := range []struct {
		plan  []int
		value int
		err   api.Errno
	}{
		{nil, 0, api.OK},
		{[]int{1}, 30, api.OK},
		{[]int{0, 2}, 90, api.OK},
		{[]int{2, 1, 0}, 120, api.OK}, // accepted or not
		{[]int{3}, 0, api.ErrMissing},
		{[]int{0, -1}, 0, api.ErrMissing},
		{[]int{math.MinInt}, 0, api.ErrMissing},
		{[]int{math.MaxInt, 0, 0}, 0, api.ErrMissing},
		{[]int{1, 1}, 0, api.ErrDouble},
		{[]int{0, 2, 0, 3}, 0, api.ErrDouble},
		{[]int{0, 3, 0}, 0, api.ErrMissing},
		{make([]int, 100000), 0, api.ErrDouble},
	} {
		n, e := dive.ValueOf(exampleSite(), c.plan)
		want(t, fmt.Sprint("ValueOf ", c.plan[:min(9, len(c.plan))]), n, e, c.value, c.err)
	}
	n, e := dive.ValueOf(greatSite(), []int{5, 4, 3, 2, 1, 0})
	want(t, "ValueOf of the greatest tasks", n, e, 60000, api.OK)
	n, e = dive.ValueOf(api.DiveSite{Tasks: make([]api.DiveTask, 1000000)}, upTo(0, 999999))
	want(t, "ValueOf of very many tasks", n, e, 0, api.ErrLarge)
}

// TestStepsTickByTick follows vehicles through tasks, tick by tick.
func TestStepsTickByTick(t *testing.T) {
	r := newRandom()
	seen := map[api.Errno]int{}
	for range 4000 {
		d := randomSite(r, 5)
		s := randomState(r, d)
		for task := range d.Tasks {
			v, err := vehicle{d, s}.does(task)
			if err != api.OK {
				v.DiveState = api.DiveState{}
			}
			x, e := dive.StepBy(d, s, task)
			want(t, fmt.Sprint("StepBy ", task, d, s), x, e, v.DiveState, err)
			seen[e]++
		}
	}
	for _, e := range []api.Errno{api.OK, api.ErrDouble, api.ErrOrder, api.ErrBreak, api.ErrZero, api.ErrRefused} {
		if seen[e] < 200 {
			t.Errorf("too few steps with the error %d are tested: %d", e, seen[e])
		}
	}
}

// TestPlansStepByStep is whether the states of plans are those of steps, and whether the vehicle can always come back.
func TestPlansStepByStep(t *testing.T) {
	r := newRandom()
	accepted := 0
	for range 8000 {
		d := randomSite(r, 6)
		s := randomState(r, d)
		plan := r.Perm(len(d.Tasks))[:r.IntN(len(d.Tasks)+1)]
		what := fmt.Sprint(plan, d, s)
		states, index, err := []api.DiveState{s}, 0, api.OK
		for i, task := range plan {
			after, e := dive.StepBy(d, states[i], task)
			if e != api.OK {
				states, index, err = nil, i, e
				break
			}
			states = append(states, after)
		}
		l, e := dive.StatesOf(d, s, plan)
		want(t, "StatesOf "+what, l, e, states, err)
		n, e := dive.CheckPlan(d, s, plan)
		if err != api.OK {
			want(t, "CheckPlan "+what, n, e, index, err)
			continue
		}
		want(t, "CheckPlan "+what, n, e, valueOf(d, plan), api.OK)
		n, e = dive.ValueOf(d, plan)
		want(t, "ValueOf "+what, n, e, valueOf(d, plan), api.OK)
		wantAlwaysBack(t, d, plan, l)
		accepted += len(plan)
	}
	if accepted < 1000 {
		t.Errorf("too few accepted steps are tested: %d", accepted)
	}
}

// wantAlwaysBack is whether the consequences hold for the states of an accepted plan.
func wantAlwaysBack(t *testing.T, d api.DiveSite, plan []int, states []api.DiveState) {
	t.Helper()
	for i := range plan {
		before, after := states[i], states[i+1]
		if can, e := dive.CanReturn(d, after); !can || e != api.OK {
			t.Errorf("%v: after %v it cannot return: error %d", d, plan[:i+1], e)
		}
		if after.At < before.At || after.Power > before.Power || after.Oil > before.Oil {
			t.Errorf("%v: the step of %d from %v to %v", d, plan[i], before, after)
		}
		if last, e := dive.LastReturn(d, after); e != api.OK || last < after.At {
			t.Errorf("%v: after %v the last return is %d, error %d", d, plan[:i+1], last, e)
		}
		beginning, e := dive.StatesOf(d, states[0], plan[:i])
		want(t, fmt.Sprint("StatesOf the beginning ", plan[:i], d), beginning, e, states[:i+1], api.OK)
	}
}
