package dive

import (
	"moonpool/api"
	"moonpool/rules"
)

// CheckSite is in P8.1.
func CheckSite(d api.DiveSite) (int, api.Errno) {
	if i, e := checkTasks(d.Tasks); e != api.OK {
		return i, e
	}
	if i, e := checkPlaces(d); e != api.OK {
		return i, e
	}
	i, e := rules.FirstBad(d.Tasks, func(t api.DiveTask) api.Errno { return rules.IndexError(t.Place, len(d.Home)) })
	if e != api.OK {
		return i, e
	}
	if i, e := rules.CheckList(d.Tides, 0, api.MaxDiveTides, tideErrors()); e != api.OK {
		return i, e
	}
	return 0, rules.FirstError(numbersError(d.Idle, d.Swim, d.Reserve), ticksError(d.End))
}

func siteError(d api.DiveSite) api.Errno {
	_, e := CheckSite(d)
	return e
}

// checkTasks finds the error of tasks, with the index of the task that has it.
func checkTasks(l []api.DiveTask) (int, api.Errno) {
	return rules.CheckList(l, 0, api.MaxDiveTasks, taskErrors())
}

// taskErrors makes the function that finds the errors of tasks one after another.
func taskErrors() func(t api.DiveTask) api.Errno {
	nameError := rules.NameErrors(api.ErrExists)
	earlier := 0
	return func(t api.DiveTask) api.Errno {
		_, afterError := rules.FirstBad(t.After, rules.SetErrors(earlier))
		earlier++
		return rules.FirstError(
			nameError(t.Name),
			rules.LimitError(t.Place, 0, api.MaxDivePlaces-1),
			numbersError(t.Duration, t.Power, t.Oil, t.Value),
			ticksError(t.Window.Lo, t.Window.Hi),
			rules.OrderError(t.Window),
			afterError,
		)
	}
}

// checkPlaces finds the error of Home and Travel, with the index of the place that has it.
func checkPlaces(d api.DiveSite) (int, api.Errno) {
	switch {
	case len(d.Home) == 0:
		return 0, api.ErrShape
	case len(d.Home) > api.MaxDivePlaces:
		return 0, api.ErrLarge
	case len(d.Travel) != len(d.Home):
		return 0, api.ErrShape
	}
	for place := range d.Home {
		if e := placeError(d, place); e != api.OK {
			return place, e
		}
	}
	return 0, api.OK
}

func placeError(d api.DiveSite, place int) api.Errno {
	if e := numbersError(d.Home[place]); e != api.OK {
		return e
	}
	row := d.Travel[place]
	if len(row) != len(d.Home) {
		return api.ErrShape
	}
	return rules.FirstError(numbersError(row...), rules.LimitError(row[place], 0, 0))
}

// tideErrors makes the function that finds the errors of tides one after another.
func tideErrors() func(t api.DiveTide) api.Errno {
	free := 0 // the first tick after the tide before
	return func(t api.DiveTide) api.Errno {
		e := rules.FirstError(ticksError(t.Ticks.Lo, t.Ticks.Hi), numbersError(t.Slow), rules.OrderError(t.Ticks))
		if e == api.OK && t.Ticks.Lo < free {
			e = api.ErrOrder
		}
		free = t.Ticks.Hi + 1
		return e
	}
}

func numbersError(numbers ...int) api.Errno {
	return rules.LimitsError(0, api.MaxDiveNumber, numbers...)
}

func ticksError(ticks ...int) api.Errno { return rules.LimitsError(0, api.MaxDiveTick, ticks...) }
