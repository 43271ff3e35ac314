package sonar

import (
	"moonpool/api"
	"moonpool/rules"
)

// FirstTurns is in P4.1.
func FirstTurns(l []api.SonarDevice, cycle int) (api.SonarTurns, api.Errno) {
	if e := rules.FirstError(devicesError(l), cycleError(cycle)); e != api.OK {
		return api.SonarTurns{}, e
	}
	return devices(l).shortestTurns(cycle, cycle)
}

// ShortestTurns is in P4.1.
func ShortestTurns(l []api.SonarDevice) (api.SonarTurns, api.Errno) {
	if e := devicesError(l); e != api.OK {
		return api.SonarTurns{}, e
	}
	return devices(l).shortestTurns(1, api.MaxSonarCycle)
}

// shortestTurns are the first turns of the shortest cycle that has some, from one to another one. Cycles below the bound have none.
func (d devices) shortestTurns(from, to int) (api.SonarTurns, api.Errno) {
	_, bound := d.bound()
	for cycle := max(from, bound); cycle <= to; cycle++ {
		if t, ok := d.turnsIn(cycle); ok {
			return t, api.OK
		}
	}
	return api.SonarTurns{}, api.ErrNone
}

// turnsIn are the first turns of a cycle, or false if it has none.
// Turns whose starts are all moved are turns, too: if none begin with 0, there are none.
func (d devices) turnsIn(cycle int) (api.SonarTurns, bool) {
	t := api.SonarTurns{Cycle: cycle, Starts: make([]int, len(d))}
	at := 0
search:
	for at < len(d) {
		for ; t.Starts[at] < cycle; t.Starts[at]++ {
			if d.fits(at, t) {
				at++
				continue search
			}
		}
		if at <= 1 {
			return api.SonarTurns{}, false
		}
		t.Starts[at] = 0
		at--
		t.Starts[at]++
	}
	return t, true
}

// fits is whether a device blinds neither itself nor one before it.
func (d devices) fits(at int, t api.SonarTurns) bool {
	for i := range at + 1 {
		if d.blind(i, at, t) {
			return false
		}
	}
	return true
}
