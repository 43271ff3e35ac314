package dive

import (
	"iter"
	"slices"

	"moonpool/api"
	"moonpool/rules"
)

// BestPlan is in P8.4.
func BestPlan(d api.DiveSite, s api.DiveState) ([]int, int, api.Errno) {
	x, e := newReturningDive(d, s)
	if e != api.OK {
		return nil, 0, e
	}
	plan, most := x.bestPlan(func(int) bool { return true })
	return plan, most, api.OK
}

// DependentsOf is in P8.5.
func DependentsOf(d api.DiveSite, task int) ([]int, api.Errno) {
	if e := rules.FirstError(siteError(d), rules.IndexError(task, len(d.Tasks))); e != api.OK {
		return nil, e
	}
	return dependents(d, task).Members(), api.OK
}

// Replanned is in P8.5.
func Replanned(d api.DiveSite, s api.DiveState, failed int) ([]int, int, api.Errno) {
	x, e := newDive(d, s)
	if e = rules.FirstError(e, rules.IndexError(failed, len(d.Tasks))); e != api.OK {
		return nil, 0, e
	}
	if x.isDone(failed) {
		return nil, 0, api.ErrDouble
	}
	if !x.canReturn() {
		return nil, 0, api.ErrRefused
	}
	dropped := dependents(d, failed).With(failed)
	plan, most := x.bestPlan(func(task int) bool { return !dropped.Has(task) })
	return plan, most, api.OK
}

// bestPlan is the best plan of permitted tasks, and its value.
func (d dive) bestPlan(permits func(task int) bool) ([]int, int) {
	var best []int
	most := 0
	for plan := range d.plans(permits) {
		if sum := value(d.DiveSite, plan); sum > most {
			best, most = plan, sum
		}
	}
	return best, most
}

// plans yields the accepted plans of permitted tasks, in lexicographic order.
func (d dive) plans(permits func(task int) bool) iter.Seq[[]int] {
	return func(yield func(plan []int) bool) { d.yieldPlans(nil, permits, yield) }
}

// yieldPlans yields the plan after which this is the dive, and then all those that begin with it. It is false if no more are wanted.
func (d dive) yieldPlans(plan []int, permits func(task int) bool, yield func(plan []int) bool) bool {
	if !yield(plan) {
		return false
	}
	for task := range d.Tasks {
		if !permits(task) {
			continue
		}
		after, e := d.step(task)
		if e == api.OK && !after.yieldPlans(append(slices.Clone(plan), task), permits, yield) {
			return false
		}
	}
	return true
}

// dependents are those of a task. Tasks need earlier ones alone, so that all dependents that a task may need are found before it.
func dependents(d api.DiveSite, task int) rules.Set {
	var found rules.Set
	for i, t := range d.Tasks {
		if rules.SetOf(t.After...)&found.With(task) != 0 {
			found = found.With(i)
		}
	}
	return found
}
