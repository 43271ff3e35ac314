package dive

import (
	"slices"

	"moonpool/api"
	"moonpool/rules"
)

// GoTogether is in P8.5.
func GoTogether(d api.DiveSite, s api.DiveState, set []int) (bool, api.Errno) {
	x, e := newDive(d, s)
	if e != api.OK {
		return false, e
	}
	if e := indexesError(d, set); e != api.OK {
		return false, e
	}
	if slices.ContainsFunc(set, x.isDone) {
		return false, api.ErrDouble
	}
	return x.goTogether(rules.SetOf(set...)), api.OK
}

// ClashOf is in P8.5.
func ClashOf(d api.DiveSite, s api.DiveState) ([]int, api.Errno) {
	x, e := newDive(d, s)
	if e != api.OK {
		return nil, e
	}
	clash, ok := rules.Minimum(len(x.Tasks), func(set rules.Set) bool {
		return !slices.ContainsFunc(set.Members(), x.isDone) && !x.goTogether(set)
	})
	if !ok {
		return nil, api.ErrNone
	}
	return clash.Members(), api.OK
}

// goTogether is whether tasks that are not done go together. All others count as done: those that none of the tasks needs make no difference.
func (d dive) goTogether(set rules.Set) bool {
	d.Done = nil
	for task := range d.Tasks {
		if !set.Has(task) {
			d.Done = append(d.Done, task)
		}
	}
	for plan := range d.plans(set.Has) {
		if len(plan) == set.Size() {
			return true
		}
	}
	return false
}
