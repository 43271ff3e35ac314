package dive_test

import (
	"fmt"
	"math"
	"slices"
	"testing"

	"moonpool/api"
	"moonpool/dive"
)

// P8.5 (GoTogether, ClashOf), P8.12

func TestGoTogether(t *testing.T) {
	poor := stateOf(0, 0, 0, 0)
	for _, c := range []struct {
		name     string
		site     api.DiveSite
		state    api.DiveState
		set      []int
		together bool
	}{
		{"nothing", exampleSite(), exampleState(), nil, true},
		{"nothing, from where it cannot return", exampleSite(), poor, []int{}, true},
		{"two tasks", exampleSite(), exampleState(), []int{1, 2}, true},
		{"in another order of the numbers", exampleSite(), exampleState(), []int{2, 1}, true},
		{"one that needs the other", exampleSite(), exampleState(), []int{2, 0}, true},
		{"one that needs one that is not among them", exampleSite(), exampleState(), []int{2}, true},
		{"all", exampleSite(), exampleState(), []int{0, 1, 2}, false},
		{"all, with more oil", exampleSite(), stateOf(0, 0, 300, 7), []int{2, 0, 1}, true},
		{"one, from where it cannot return", exampleSite(), poor, []int{1}, false},
		{"one too late", exampleSite(), stateOf(0, 71, 300, 6), []int{1}, false},
		{"one with one too late", exampleSite(), stateOf(0, 71, 300, 6), []int{1, 0}, false},
		{"a task beside one that is done", exampleSite(), stateOf(1, 30, 250, 2, 0), []int{2}, true},
		{"two tasks beside one that is done", exampleSite(), stateOf(1, 30, 250, 2, 0), []int{1, 2}, false},
		{"a chain whose middle counts as done", chainSite(), api.DiveState{}, []int{3, 0}, true},
		{"all of a chain", chainSite(), api.DiveState{}, []int{5, 4, 3, 2, 1, 0}, true},
	} {
		is, e := dive.GoTogether(c.site, c.state, c.set)
		want(t, "GoTogether: "+c.name, is, e, c.together, api.OK)
	}
	for _, c := range []struct {
		name  string
		state api.DiveState
		set   []int
		err   api.Errno
	}{
		{"no such task", exampleState(), []int{0, 3}, api.ErrMissing},
		{"the task -1", exampleState(), []int{-1}, api.ErrMissing},
		{"the least task", exampleState(), []int{math.MinInt}, api.ErrMissing},
		{"a task twice", exampleState(), []int{1, 1}, api.ErrDouble},
		{"missing before twice in one number", exampleState(), []int{3, 3}, api.ErrMissing},
		{"twice before missing in the next number", exampleState(), []int{1, 0, 1, 3}, api.ErrDouble},
		{"a task that is done", stateOf(0, 0, 300, 6, 0), []int{2, 0}, api.ErrDouble},
		{"missing before done", stateOf(0, 0, 300, 6, 0), []int{0, 3}, api.ErrMissing},
		{"many tasks", exampleState(), make([]int, 100000), api.ErrDouble},
	} {
		is, e := dive.GoTogether(exampleSite(), c.state, c.set)
		want(t, "GoTogether: "+c.name, is, e, false, c.err)
	}
}

func TestClashOf(t *testing.T) {
	for _, c := range []struct {
		name  string
		site  api.DiveSite
		state api.DiveState
		clash []int
		err   api.Errno
	}{
		{"example 7", exampleSite(), exampleState(), []int{0, 1, 2}, api.OK},
		{"example 7, with more oil", exampleSite(), stateOf(0, 0, 300, 7), nil, api.ErrNone},
		{"a task alone", exampleSite(), stateOf(0, 71, 300, 7), []int{1}, api.OK},
		{"the first task alone", exampleSite(), stateOf(0, 0, 0, 0), []int{0}, api.OK},
		{"two tasks", exampleSite(), stateOf(0, 0, 300, 4), []int{0, 1}, api.OK},
		{"the first two of three", exampleSite(), stateOf(1, 0, 300, 2, 0), []int{1, 2}, api.OK},
		{"without those that are done", exampleSite(), stateOf(1, 30, 250, 3, 0), nil, api.ErrNone},
		{"all are done", exampleSite(), stateOf(0, 0, 0, 0, 0, 1, 2), nil, api.ErrNone},
		{"no tasks", changed(func(d *api.DiveSite) { d.Tasks = nil }), stateOf(0, 0, 0, 0), nil, api.ErrNone},
	} {
		clash, e := dive.ClashOf(c.site, c.state)
		want(t, "ClashOf: "+c.name, clash, e, c.clash, c.err)
	}
}

// together is whether some order of exactly these tasks is accepted, where those that they need, and that are not among them, count as done.
func together(d api.DiveSite, s api.DiveState, set []int, orders [][]int) bool {
	d.Tasks = slices.Clone(d.Tasks)
	for i, t := range d.Tasks {
		d.Tasks[i].After = slices.DeleteFunc(slices.Clone(t.After), func(needed int) bool { return !slices.Contains(set, needed) })
	}
	return slices.ContainsFunc(orders, func(order []int) bool {
		sorted := slices.Sorted(slices.Values(order))
		return slices.Equal(sorted, set) && accepts(d, s, order)
	})
}

// TestClashesByTheirDefinition finds clashes among all sets.
func TestClashesByTheirDefinition(t *testing.T) {
	r := newRandom()
	sizes := map[int]int{}
	for range 500 {
		d := randomSite(r, 4)
		s := randomState(r, d)
		all := orders(len(d.Tasks))
		var clash []int
		err := api.ErrNone
		for _, set := range sets(len(d.Tasks)) {
			if slices.ContainsFunc(set, func(task int) bool { return slices.Contains(s.Done, task) }) {
				continue
			}
			is := together(d, s, set, all)
			if !is && err != api.OK {
				clash, err = set, api.OK
			}
			r.Shuffle(len(set), func(i, k int) { set[i], set[k] = set[k], set[i] })
			got, e := dive.GoTogether(d, s, set)
			want(t, fmt.Sprint("GoTogether ", set, d, s), got, e, is, api.OK)
			slices.Sort(set)
		}
		l, e := dive.ClashOf(d, s)
		want(t, fmt.Sprint("ClashOf ", d, s), l, e, clash, err)
		sizes[len(l)]++
	}
	for size := range 3 {
		if sizes[size] < 20 {
			t.Errorf("too few clashes of %d tasks are tested: %v", size, sizes)
		}
	}
}

// TestClashesAndPlans is whether a clash, but not a part of it, and no accepted plan do not go together.
func TestClashesAndPlans(t *testing.T) {
	r := newRandom()
	for range 1000 {
		d, s := returningDive(r, 6)
		what := fmt.Sprint(d, s)
		clash, e := dive.ClashOf(d, s)
		if e == api.OK {
			is, e := dive.GoTogether(d, s, clash)
			want(t, fmt.Sprint("GoTogether of the clash ", clash, what), is, e, false, api.OK)
		}
		for i := range clash {
			is, e := dive.GoTogether(d, s, slices.Delete(slices.Clone(clash), i, i+1))
			want(t, fmt.Sprint("GoTogether of the clash ", clash, " without ", clash[i], what), is, e, true, api.OK)
		}
		plan, _, _ := dive.BestPlan(d, s)
		r.Shuffle(len(plan), func(i, k int) { plan[i], plan[k] = plan[k], plan[i] })
		is, e := dive.GoTogether(d, s, plan)
		want(t, fmt.Sprint("GoTogether of the best plan ", plan, what), is, e, true, api.OK)
	}
}
