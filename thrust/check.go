package thrust

import (
	"moonpool/api"
	"moonpool/rules"
)

// CheckThrusters is in P3.1.
func CheckThrusters(l []api.Thruster) (int, api.Errno) {
	return rules.CheckList(l, 1, api.MaxThrusters, thrusterError)
}

// ColumnOf is in P3.1.
func ColumnOf(l []api.Thruster, i int) ([3]int, api.Errno) {
	if e := rules.FirstError(thrustersError(l), rules.IndexError(i, len(l))); e != api.OK {
		return [3]int{}, e
	}
	return newThruster(l[i]).column, api.OK
}

// ForceOf is in P3.1.
func ForceOf(l []api.Thruster, setting []int) ([3]int, api.Errno) {
	if _, e := settingError(l, setting); e != api.OK {
		return [3]int{}, e
	}
	return newVehicle(l).gives(setting), api.OK
}

// CheckSetting is in P3.1.
func CheckSetting(l []api.Thruster, setting []int) (int, api.Errno) {
	if i, e := settingError(l, setting); e != api.OK {
		return i, e
	}
	v := newVehicle(l)
	i, e := v.refusal(api.ErrBreak, func(i int) bool { return !v[i].holds(setting[i], 1) })
	if e != api.OK {
		return i, e
	}
	return v.refusal(api.ErrClash, func(i int) bool { return v[i].isDead(setting[i]) })
}

// settingError is the error of thrusters and a whole setting, with the index of the number that has it.
func settingError(l []api.Thruster, setting []int) (int, api.Errno) {
	if e := thrustersError(l); e != api.OK {
		return 0, e
	}
	if len(setting) != len(l) {
		return 0, api.ErrShape
	}
	return numbersError(setting)
}

// numbersError is the error of the numbers of a whole setting, with the index of the first one that has it.
func numbersError(setting []int) (int, api.Errno) {
	return rules.FirstBad(setting, func(n int) api.Errno { return rules.SizeError(api.MaxThrustLimit, n) })
}

func thrustersError(l []api.Thruster) api.Errno {
	_, e := CheckThrusters(l)
	return e
}

func thrusterError(t api.Thruster) api.Errno {
	e := rules.FirstError(
		rules.SizeError(api.MaxThrustDirection, t.Direction[:]...),
		rules.SizeError(api.MaxThrustPlace, t.Place[:]...),
		rules.SizeError(api.MaxThrustLimit, t.Limit.Lo, t.Limit.Hi),
		rules.LimitError(t.Dead, 0, api.MaxThrustLimit),
	)
	if e != api.OK {
		return e
	}
	if t.Direction == [2]int{} {
		return api.ErrZero
	}
	if t.Limit.Lo > 0 || t.Limit.Hi < 0 {
		return api.ErrOrder
	}
	return api.OK
}

func wantedError(wanted [3]int) api.Errno { return rules.SizeError(api.MaxThrustWanted, wanted[:]...) }

// wantsError is the error of wanted forces.
func wantsError(wanted [][3]int) api.Errno {
	_, e := rules.CheckList(wanted, 1, api.MaxThrustWants, wantedError)
	return e
}

func directionError(direction [3]int) api.Errno {
	if e := rules.SizeError(api.MaxThrustNormal, direction[:]...); e != api.OK {
		return e
	}
	if direction == [3]int{} {
		return api.ErrZero
	}
	return api.OK
}

// partsError is the error of a setting of fractions.
func partsError(l []api.Thruster, s api.ThrustSetting) api.Errno {
	return fractionsError(len(l), s.Den, s.Parts...)
}
