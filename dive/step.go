package dive

import (
	"slices"

	"moonpool/api"
	"moonpool/rules"
)

// StepBy is in P8.3.
func StepBy(d api.DiveSite, s api.DiveState, task int) (api.DiveState, api.Errno) {
	states, e := StatesOf(d, s, []int{task})
	if e != api.OK {
		return api.DiveState{}, e
	}
	return states[1], api.OK
}

// StatesOf is in P8.3.
func StatesOf(d api.DiveSite, s api.DiveState, plan []int) ([]api.DiveState, api.Errno) {
	x, e := newDive(d, s)
	if e != api.OK {
		return nil, e
	}
	states, _, e := x.states(plan)
	return states, e
}

// CheckPlan is in P8.3.
func CheckPlan(d api.DiveSite, s api.DiveState, plan []int) (int, api.Errno) {
	x, e := newDive(d, s)
	if e != api.OK {
		return 0, e
	}
	if _, i, e := x.states(plan); e != api.OK {
		return i, e
	}
	return value(d, plan), api.OK
}

// ValueOf is in P8.3.
func ValueOf(d api.DiveSite, plan []int) (int, api.Errno) {
	if e := siteError(d); e != api.OK {
		return 0, e
	}
	if e := indexesError(d, plan); e != api.OK {
		return 0, e
	}
	return value(d, plan), api.OK
}

// indexesError is the error of numbers of tasks, as a plan or as a set, of a valid site.
func indexesError(d api.DiveSite, tasks []int) api.Errno {
	_, e := rules.FirstBad(tasks, rules.DistinctErrors(len(d.Tasks)))
	return e
}

// value is that of a plan.
func value(d api.DiveSite, plan []int) int {
	sum := 0
	for _, task := range plan {
		sum += d.Tasks[task].Value
	}
	return sum
}

// states are those of an accepted plan. If it is not accepted, there are none, but the index of its first step with an error.
func (d dive) states(plan []int) ([]api.DiveState, int, api.Errno) {
	states := []api.DiveState{d.given()}
	for i, task := range plan {
		after, e := d.step(task)
		if e != api.OK {
			return nil, i, e
		}
		states = append(states, after.given())
		d = after
	}
	return states, 0, api.OK
}

// step is a dive after the step of a task, or the error of this step.
func (d dive) step(task int) (dive, api.Errno) {
	if e := d.beginError(task); e != api.OK {
		return dive{}, e
	}
	t := d.Tasks[task]
	there := d.swumTo(t.Place)
	if there.At > t.Window.Hi {
		return dive{}, api.ErrBreak
	}
	if there.Oil < t.Oil {
		return dive{}, api.ErrZero
	}
	after := there.waited(max(there.At, t.Window.Lo)).worked(task)
	if !after.canReturn() {
		return dive{}, api.ErrRefused
	}
	return after, api.OK
}

// beginError is the error of a task that cannot be begun, wherever and whenever this would be.
func (d dive) beginError(task int) api.Errno {
	if e := rules.IndexError(task, len(d.Tasks)); e != api.OK {
		return e
	}
	if d.isDone(task) {
		return api.ErrDouble
	}
	isMissing := func(needed int) bool { return !d.isDone(needed) }
	if slices.ContainsFunc(d.Tasks[task].After, isMissing) {
		return api.ErrOrder
	}
	return api.OK
}

// worked is a dive after the work of a task.
func (d dive) worked(task int) dive {
	t := d.Tasks[task]
	d.At += t.Duration
	d.Power -= t.Power
	d.Oil -= t.Oil
	at, _ := slices.BinarySearch(d.Done, task)
	d.Done = slices.Insert(slices.Clone(d.Done), at, task)
	return d
}
