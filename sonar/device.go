package sonar

import (
	"moonpool/api"
	"moonpool/rules"
)

// devices are given ones, in their order.
type devices []api.SonarDevice

// CheckDevices is in P4.1.
func CheckDevices(l []api.SonarDevice) (int, api.Errno) {
	return rules.CheckList(l, 1, api.MaxSonarDevices, deviceError)
}

// BlindIn is in P4.1.
func BlindIn(l []api.SonarDevice, t api.SonarTurns) ([2]int, api.Errno) {
	if e := turnsError(l, t); e != api.OK {
		return [2]int{}, e
	}
	for i := range l {
		for k := i; k < len(l); k++ {
			if devices(l).blind(i, k, t) {
				return [2]int{i, k}, api.OK
			}
		}
	}
	return [2]int{}, api.ErrNone
}

// BoundOf is in P4.1.
func BoundOf(l []api.SonarDevice) ([]int, int, api.Errno) {
	if e := devicesError(l); e != api.OK {
		return nil, 0, e
	}
	s, bound := devices(l).bound()
	return s.Members(), bound, api.OK
}

func devicesError(l []api.SonarDevice) api.Errno {
	_, e := CheckDevices(l)
	return e
}

func deviceError(d api.SonarDevice) api.Errno {
	return rules.FirstError(
		rules.LimitError(d.Band, 0, api.MaxSonarBand),
		rules.LimitError(d.Send, 1, api.MaxSonarSend),
		rules.LimitError(d.Listen, 0, api.MaxSonarSend),
	)
}

func cycleError(cycle int) api.Errno { return rules.LimitError(cycle, 1, api.MaxSonarCycle) }

// turnsError is the error of devices and their turns.
func turnsError(l []api.SonarDevice, t api.SonarTurns) api.Errno {
	if e := rules.FirstError(devicesError(l), cycleError(t.Cycle)); e != api.OK {
		return e
	}
	if len(t.Starts) != len(l) {
		return api.ErrShape
	}
	_, e := rules.FirstBad(t.Starts, func(start int) api.Errno { return rules.LimitError(start, 0, t.Cycle-1) })
	return e
}

// window is how many ticks the window of a device has.
func (d devices) window(i int) int { return d[i].Send + d[i].Listen }

// disturb is whether two devices disturb each other.
func (d devices) disturb(i, k int) bool { return rules.Within(d[i].Band-d[k].Band, 1) }

// blind is whether two devices blind each other in turns, or one itself.
func (d devices) blind(i, k int, t api.SonarTurns) bool {
	if i == k {
		return d.window(i) > t.Cycle
	}
	return d.disturb(i, k) && (d.isOpen(i, t, t.Starts[k]) || d.isOpen(k, t, t.Starts[i]))
}

// isOpen is whether a tick lies in the window of a device, in this cycle or the one before.
func (d devices) isOpen(i int, t api.SonarTurns, tick int) bool {
	return (tick-t.Starts[i]+t.Cycle)%t.Cycle < d.window(i)
}

// bound is the bound of devices, and its set.
func (d devices) bound() (rules.Set, int) {
	s, weight, _ := rules.Best(len(d), func(s rules.Set) (int, bool) {
		sum := 0
		for _, i := range s.Members() {
			sum += d.window(i)
		}
		return -sum, d.allDisturb(s)
	})
	return s, -weight
}

// allDisturb is whether the devices of a set disturb each other pairwise.
func (d devices) allDisturb(s rules.Set) bool {
	for i := range d {
		for k := range i {
			if s.Has(i) && s.Has(k) && !d.disturb(i, k) {
				return false
			}
		}
	}
	return true
}
