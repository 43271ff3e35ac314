package dive_test

import (
	"fmt"
	"math"
	"slices"
	"testing"

	"moonpool/api"
	"moonpool/dive"
)

// P8.4 (BestPlan), P8.5 (DependentsOf, Replanned), P8.10, P8.11

func TestBestPlan(t *testing.T) {
	values := func(values ...int) api.DiveSite {
		return changed(func(d *api.DiveSite) {
			for i, n := range values {
				d.Tasks[i].Value = n
			}
		})
	}
	alone := changed(func(d *api.DiveSite) { d.Tasks, d.Idle = nil, 0 })
	for _, c := range []struct {
		name  string
		site  api.DiveSite
		state api.DiveState
		plan  []int
		value int
		err   api.Errno
	}{
		{"example 4", exampleSite(), exampleState(), []int{0, 2}, 90, api.OK},
		{"with more oil", exampleSite(), stateOf(0, 0, 300, 7), []int{0, 1, 2}, 120, api.OK},
		{"with a task that is done", exampleSite(), stateOf(1, 30, 250, 3, 0), []int{1, 2}, 70, api.OK},
		{"after the windows", exampleSite(), stateOf(0, 320, 300, 6, 0), []int{2}, 40, api.OK},
		{"without a task that another one needs", exampleSite(), stateOf(0, 0, 300, 3), []int{1}, 30, api.OK},
		{"the first one of two with one value", values(50, 40, 40), exampleState(), []int{0, 1}, 90, api.OK},
		{"the beginning of one with the same value", values(50, 0, 0), exampleState(), []int{0}, 50, api.OK},
		{"without any value", values(0, 0, 0), exampleState(), nil, 0, api.OK},
		{"a later one with more value", values(10, 30, 10), exampleState(), []int{0, 1}, 40, api.OK},
		{"no tasks", alone, exampleState(), nil, 0, api.OK},
		{"exactly at the reserve", exampleSite(), stateOf(0, 0, 80, 6), nil, 0, api.OK},
		{"example 5", exampleSite(), stateOf(0, 0, 60, 6), nil, 0, api.ErrRefused},
		{"no tasks, but too little power", alone, stateOf(0, 0, 60, 6), nil, 0, api.ErrRefused},
		{"after the end", exampleSite(), stateOf(0, 371, 300, 6), nil, 0, api.ErrRefused},
		{"all is done", exampleSite(), stateOf(0, 0, 300, 6, 0, 1, 2), nil, 0, api.OK},
	} {
		plan, n, e := dive.BestPlan(c.site, c.state)
		want(t, "BestPlan: "+c.name, plan, e, c.plan, c.err)
		want(t, "BestPlan: the value: "+c.name, n, e, c.value, c.err)
	}
}

// bestOf is the first of some orders that is accepted and has the greatest value.
func bestOf(d api.DiveSite, s api.DiveState, orders [][]int) ([]int, int) {
	var best []int
	for _, plan := range orders {
		if valueOf(d, plan) > valueOf(d, best) && accepts(d, s, plan) {
			best = plan
		}
	}
	return best, valueOf(d, best)
}

// TestNoBetterPlan compares the best plans with those that are found among all orders of all tasks.
func TestNoBetterPlan(t *testing.T) {
	r := newRandom()
	sizes := map[int]int{}
	for range 1500 {
		d, s := returningDive(r, 5)
		best, value := bestOf(d, s, orders(len(d.Tasks)))
		plan, n, e := dive.BestPlan(d, s)
		what := fmt.Sprint("BestPlan ", d, s)
		want(t, what, plan, e, best, api.OK)
		want(t, what, n, e, value, api.OK)
		n, e = dive.CheckPlan(d, s, plan)
		want(t, "CheckPlan of the best plan", n, e, value, api.OK)
		sizes[len(plan)]++
	}
	for size := range 4 {
		if sizes[size] < 40 {
			t.Errorf("too few best plans of %d tasks are tested: %v", size, sizes)
		}
	}
}

func TestBestPlanOfTheMostTasks(t *testing.T) {
	d := api.DiveSite{Home: []int{0}, Travel: [][]int{{0}}, End: 6}
	for i := range 6 {
		d.Tasks = append(d.Tasks, taskOf(string(rune('a'+i)), [7]int{0, 1, 0, 0, 1, 5 - i, 5 - i}))
	}
	plan, n, e := dive.BestPlan(d, api.DiveState{})
	want(t, "BestPlan in the only order", plan, e, []int{5, 4, 3, 2, 1, 0}, api.OK)
	want(t, "its value", n, e, 6, api.OK)
	plan, n, e = dive.BestPlan(greatSite(), stateOf(4, 0, 100000000, 10000))
	want(t, "BestPlan of the greatest site", plan, e, none, api.ErrRefused)
	want(t, "its value", n, e, 0, api.ErrRefused)
}

// chainSite has 6 tasks, of which some need others.
func chainSite() api.DiveSite {
	needs := [][]int{nil, {0}, nil, {1}, {2}, {0, 4}}
	d := api.DiveSite{Home: []int{0}, Travel: [][]int{{0}}, End: 100}
	for i, after := range needs {
		d.Tasks = append(d.Tasks, taskOf(string(rune('a'+i)), [7]int{0, 1, 0, 0, 1, 0, 100}, after...))
	}
	return d
}

func TestDependentsOf(t *testing.T) {
	for i, dependents := range [][]int{{2}, nil, nil} {
		l, e := dive.DependentsOf(exampleSite(), i)
		want(t, fmt.Sprint("DependentsOf ", i), l, e, dependents, api.OK)
	}
	for i, dependents := range [][]int{{1, 3, 5}, {3}, {4, 5}, nil, {5}, nil} {
		l, e := dive.DependentsOf(chainSite(), i)
		want(t, fmt.Sprint("DependentsOf ", i, " of a chain"), l, e, dependents, api.OK)
	}
	for _, bad := range []int{-1, 3, math.MaxInt, math.MinInt} {
		l, e := dive.DependentsOf(exampleSite(), bad)
		want(t, fmt.Sprint("DependentsOf ", bad), l, e, none, api.ErrMissing)
	}
	l, e := dive.DependentsOf(greatSite(), 0)
	want(t, "DependentsOf of a task that all others need", l, e, upTo(1, 5), api.OK)
}

// needs is whether a task needs another one, or one that needs it, and so on.
func needs(d api.DiveSite, task, other int) bool {
	return slices.ContainsFunc(d.Tasks[task].After, func(n int) bool { return n == other || needs(d, n, other) })
}

func TestDependentsByTheirDefinition(t *testing.T) {
	r := newRandom()
	found := 0
	for range 1000 {
		d := randomSite(r, 6)
		for i := range d.Tasks {
			d.Tasks[i].After = nil
			for k := range i {
				if r.IntN(3) == 0 {
					d.Tasks[i].After = append(d.Tasks[i].After, k)
				}
			}
		}
		for task := range d.Tasks {
			dependents := slices.DeleteFunc(upTo(0, len(d.Tasks)-1), func(i int) bool { return !needs(d, i, task) })
			l, e := dive.DependentsOf(d, task)
			want(t, fmt.Sprint("DependentsOf ", task, d), l, e, dependents, api.OK)
			for _, i := range l {
				further, _ := dive.DependentsOf(d, i)
				for _, k := range further {
					if !slices.Contains(l, k) {
						t.Errorf("%v: %d is a dependent of %d, but not of %d", d, k, i, task)
					}
					found++
				}
			}
		}
	}
	if found < 200 {
		t.Errorf("too few dependents of dependents are tested: %d", found)
	}
}

func TestReplanned(t *testing.T) {
	rich := stateOf(0, 0, 300, 7)
	for _, c := range []struct {
		name   string
		site   api.DiveSite
		state  api.DiveState
		failed int
		plan   []int
		value  int
		err    api.Errno
	}{
		{"example 6", exampleSite(), exampleState(), 0, []int{1}, 30, api.OK},
		{"a task that the best plan does not have", exampleSite(), exampleState(), 1, []int{0, 2}, 90, api.OK},
		{"a task without dependents", exampleSite(), exampleState(), 2, []int{0, 1}, 80, api.OK},
		{"with more oil", exampleSite(), rich, 0, []int{1}, 30, api.OK},
		{"with more oil, a task without dependents", exampleSite(), rich, 1, []int{0, 2}, 90, api.OK},
		{"a dependent whose other tasks are done", exampleSite(), stateOf(0, 0, 300, 7, 2), 0, []int{1}, 30, api.OK},
		{"a chain", chainSite(), api.DiveState{}, 0, []int{2, 4}, 2, api.OK},
		{"a chain, a task in between", chainSite(), api.DiveState{}, 4, []int{0, 1, 2, 3}, 4, api.OK},
		{"a chain, a dependent that is done", chainSite(), stateOf(0, 0, 0, 0, 1), 0, []int{2, 4}, 2, api.OK},
		{"no such task", exampleSite(), exampleState(), 3, nil, 0, api.ErrMissing},
		{"the task -1", exampleSite(), exampleState(), -1, nil, 0, api.ErrMissing},
		{"the least task", exampleSite(), stateOf(0, 0, 0, 0), math.MinInt, nil, 0, api.ErrMissing},
		{"a task that is done", exampleSite(), stateOf(0, 0, 300, 6, 0), 0, nil, 0, api.ErrDouble},
		{"a task that is done, from where it cannot return", exampleSite(), stateOf(0, 0, 0, 6, 0), 0, nil, 0, api.ErrDouble},
		{"from where it cannot return", exampleSite(), stateOf(0, 0, 79, 6), 0, nil, 0, api.ErrRefused},
	} {
		plan, n, e := dive.Replanned(c.site, c.state, c.failed)
		want(t, "Replanned: "+c.name, plan, e, c.plan, c.err)
		want(t, "Replanned: the value: "+c.name, n, e, c.value, c.err)
	}
}

// TestReplannedFromAllOrders compares replanned ones with the best ones of all orders without the task that failed and its dependents.
func TestReplannedFromAllOrders(t *testing.T) {
	r := newRandom()
	changes := 0
	for range 600 {
		d, s := returningDive(r, 5)
		for failed := range d.Tasks {
			if slices.Contains(s.Done, failed) {
				continue
			}
			isDropped := func(task int) bool { return task == failed || needs(d, task, failed) }
			left := slices.DeleteFunc(orders(len(d.Tasks)), func(plan []int) bool { return slices.ContainsFunc(plan, isDropped) })
			best, value := bestOf(d, s, left)
			plan, n, e := dive.Replanned(d, s, failed)
			what := fmt.Sprint("Replanned without ", failed, d, s)
			want(t, what, plan, e, best, api.OK)
			want(t, what, n, e, value, api.OK)
			full, most, _ := dive.BestPlan(d, s)
			if n > most || slices.ContainsFunc(plan, isDropped) {
				t.Errorf("%s: %v with %d, but the best plan is %v with %d", what, plan, n, full, most)
			}
			if n < most && n > 0 {
				changes++
			}
		}
	}
	if changes < 100 {
		t.Errorf("too few plans with less value are tested: %d", changes)
	}
}
