package cable

import (
	"moonpool/api"
	"moonpool/rules"
)

// CheckLine is in P1.1.
func CheckLine(l api.CableLine) (int, api.Errno) {
	if e := rules.SizeError(api.MaxCableLoad, l.Load.X, l.Load.Z); e != api.OK {
		return 0, e
	}
	return rules.CheckList(l.Links, 1, api.MaxCableLinks, func(k api.CableLink) api.Errno {
		return rules.FirstError(
			rules.LimitError(k.Height, 1, api.MaxCableHeight),
			rules.SizeError(api.MaxCableWeight, k.Weight),
			rules.LimitError(k.Drag, 0, api.MaxCableDrag),
		)
	})
}

// CheckBox is in P1.1.
func CheckBox(l api.CableLine, b []api.Range) (int, api.Errno) {
	if i, e := CheckLine(l); e != api.OK {
		return i, e
	}
	if len(b) != len(l.Links) {
		return 0, api.ErrShape
	}
	return rules.FirstBad(b, func(r api.Range) api.Errno { return rules.RangeError(r, api.MaxCableCurrent) })
}

func lineError(l api.CableLine) api.Errno {
	_, e := CheckLine(l)
	return e
}

// currentsError is the error of the line and the currents.
func currentsError(l api.CableLine, currents []int) api.Errno {
	if e := lineError(l); e != api.OK {
		return e
	}
	if len(currents) != len(l.Links) {
		return api.ErrShape
	}
	return rules.SizeError(api.MaxCableCurrent, currents...)
}

// boxError is the error of the line and the box.
func boxError(l api.CableLine, b []api.Range) api.Errno {
	_, e := CheckBox(l, b)
	return e
}

// slackError is the error of slack of a valid line.
func slackError(l api.CableLine) api.Errno {
	for _, z := range (line{l}).lifts() {
		if z <= 0 {
			return api.ErrOpen
		}
	}
	return api.OK
}

// shapeError is the error of the line and the currents, and of slack.
func shapeError(l api.CableLine, currents []int) api.Errno {
	if e := currentsError(l, currents); e != api.OK {
		return e
	}
	return slackError(l)
}

// boxShapeError is the error of the line and the box, and of slack.
func boxShapeError(l api.CableLine, b []api.Range) api.Errno {
	if e := boxError(l, b); e != api.OK {
		return e
	}
	return slackError(l)
}
