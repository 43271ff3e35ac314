package cable

import (
	"moonpool/api"
	"moonpool/rules"
)

// ContradictionOf is in P1.6. Two readings at most are a contradiction: one bounds X in a link from below, another one (or the load) from above.
func ContradictionOf(l api.CableLine, b []api.Range, r []api.CableReading) ([]int, api.Errno) {
	if e := readingsError(l, b, r); e != api.OK {
		return nil, e
	}
	for i, x := range r {
		if (line{l}).apartFromLoad(b, x) > 0 {
			return []int{i}, api.OK
		}
	}
	for i, x := range r {
		for j := i + 1; j < len(r); j++ {
			if (line{l}).apartFromEachOther(b, x, r[j]) > 0 {
				return []int{i, j}, api.OK
			}
		}
	}
	return nil, api.ErrNone
}

// CheckContradiction is in P1.6.
func CheckContradiction(l api.CableLine, b []api.Range, r []api.CableReading, set []int) (int, api.Errno) {
	if e := readingsError(l, b, r); e != api.OK {
		return 0, e
	}
	if e := setError(r, set); e != api.OK {
		return 0, e
	}
	distance := 0
	if len(set) == 1 {
		distance = line{l}.apartFromLoad(b, r[set[0]])
	} else {
		distance = line{l}.apartFromEachOther(b, r[set[0]], r[set[1]])
	}
	if distance == 0 {
		return 0, api.ErrProof
	}
	return distance, api.OK
}

// readingsError is the error of the line, the box and the readings.
func readingsError(l api.CableLine, b []api.Range, r []api.CableReading) api.Errno {
	if e := boxError(l, b); e != api.OK {
		return e
	}
	if len(r) > api.MaxCableReadings {
		return api.ErrLarge
	}
	_, e := rules.FirstBad(r, func(x api.CableReading) api.Errno {
		return rules.FirstError(rules.IndexError(x.Link, len(l.Links)), rules.RangeError(x.X, api.MaxCablePull))
	})
	return e
}

// setError is the error of a set of one or two readings.
func setError(r []api.CableReading, set []int) api.Errno {
	if len(set) != 1 && len(set) != 2 {
		return api.ErrShape
	}
	_, e := rules.FirstBad(set, rules.SetErrors(len(r)))
	return e
}

// apartFromLoad is by how much a reading is apart from the pull of its link.
func (l line) apartFromLoad(box []api.Range, r api.CableReading) int {
	load := api.Range{Lo: l.Load.X, Hi: l.Load.X}
	return rules.Apart(l.carried(load, 0, r.Link+1, box), r.X)
}

// apartFromEachOther is by how much two readings are apart, whatever the load is.
func (l line) apartFromEachOther(box []api.Range, lower, upper api.CableReading) int {
	if lower.Link > upper.Link {
		lower, upper = upper, lower
	}
	return rules.Apart(l.carried(lower.X, lower.Link+1, upper.Link+1, box), upper.X)
}
