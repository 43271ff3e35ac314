package ship

import (
	"slices"

	"moonpool/api"
	"moonpool/bus"
	"moonpool/dive"
	"moonpool/fix"
	"moonpool/rules"
)

// CheckNet is in P10.1.
func CheckNet(n api.ShipNet) (int, api.Errno) {
	nameError := rules.NameErrors(api.ErrExists)
	i, e := rules.CheckList(n.People, 1, api.MaxShipPeople, func(p api.ShipPerson) api.Errno {
		return rules.FirstError(nameError(p.Name), rules.KindError(p.Role, api.ShipRoles))
	})
	if e != api.OK {
		return i, e
	}
	// The errors of a box begin with those of its net, those of a state with those of its site.
	_, busError := bus.CheckNet(n.Bus)
	_, stateError := dive.CheckState(n.Site, n.Begin)
	return 0, rules.FirstError(
		fix.CheckBox(n.Fix, n.Start),
		busError,
		rules.LimitError(n.Works, 0, api.MaxBusModes),
		stateError,
	)
}

func netError(n api.ShipNet) api.Errno {
	_, e := CheckNet(n)
	return e
}

// copyOf is a net that shares no memory with the given one.
func copyOf(n api.ShipNet) api.ShipNet {
	n.People = slices.Clone(n.People)
	n.Fix.Beacons = slices.Clone(n.Fix.Beacons)
	n.Bus = copyOfBus(n.Bus)
	n.Site = copyOfSite(n.Site)
	n.Begin = copyOfState(n.Begin)
	return n
}

func copyOfBus(n api.BusNet) api.BusNet {
	n.Parts = slices.Clone(n.Parts)
	n.Functions = copies(n.Functions, func(f api.BusFunction) api.BusFunction {
		f.Ways = copies(f.Ways, copyOfNumbers)
		return f
	})
	n.Modes = copies(n.Modes, func(m api.BusMode) api.BusMode {
		m.Needs = copyOfNumbers(m.Needs)
		return m
	})
	return n
}

func copyOfSite(d api.DiveSite) api.DiveSite {
	d.Tasks = copies(d.Tasks, func(t api.DiveTask) api.DiveTask {
		t.After = copyOfNumbers(t.After)
		return t
	})
	d.Travel = copies(d.Travel, copyOfNumbers)
	d.Home = copyOfNumbers(d.Home)
	d.Tides = slices.Clone(d.Tides)
	return d
}

func copyOfState(s api.DiveState) api.DiveState {
	s.Done = copyOfNumbers(s.Done)
	return s
}

func copyOfNumbers(l []int) []int { return slices.Clone(l) }

// copies is a list of what copies its items.
func copies[T any](l []T, copyOf func(item T) T) []T {
	l = slices.Clone(l)
	for i, item := range l {
		l[i] = copyOf(item)
	}
	return l
}
