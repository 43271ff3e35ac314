package cable

import "moonpool/api"

// CheckLine is in P1.1.
func CheckLine(l api.CableLine) (int, api.Errno) {
	if !within(l.Load.X, api.MaxCableLoad) || !within(l.Load.Z, api.MaxCableLoad) {
		return 0, api.ErrRange
	}
	if len(l.Links) == 0 {
		return 0, api.ErrShape
	}
	if len(l.Links) > api.MaxCableLinks {
		return 0, api.ErrLarge
	}
	return firstBad(l.Links, func(k api.CableLink) api.Errno {
		if k.Height < 1 || k.Height > api.MaxCableHeight || !within(k.Weight, api.MaxCableWeight) ||
			k.Drag < 0 || k.Drag > api.MaxCableDrag {
			return api.ErrRange
		}
		return api.OK
	})
}

// CheckBox is in P1.1.
func CheckBox(l api.CableLine, b []api.Range) (int, api.Errno) {
	if i, e := CheckLine(l); e != api.OK {
		return i, e
	}
	if len(b) != len(l.Links) {
		return 0, api.ErrShape
	}
	return firstBad(b, func(r api.Range) api.Errno { return rangeError(r, api.MaxCableCurrent) })
}

// firstBad finds the first item that has an error: its index, and the error.
func firstBad[T any](items []T, errorOf func(T) api.Errno) (int, api.Errno) {
	for i, item := range items {
		if e := errorOf(item); e != api.OK {
			return i, e
		}
	}
	return 0, api.OK
}

// within is whether a number is at most most in size. The least int has no size that is an int, so that none is taken.
func within(n, most int) bool { return -most <= n && n <= most }

func rangeError(r api.Range, most int) api.Errno {
	if !within(r.Lo, most) || !within(r.Hi, most) {
		return api.ErrRange
	}
	return orderError(r)
}

func orderError(r api.Range) api.Errno {
	if r.Lo > r.Hi {
		return api.ErrOrder
	}
	return api.OK
}

func lineError(l api.CableLine) api.Errno {
	_, e := CheckLine(l)
	return e
}

// currentsError is the error of the line and the currents.
func currentsError(l api.CableLine, currents []int) api.Errno {
	if e := lineError(l); e != api.OK {
		return e
	}
	if len(currents) != len(l.Links) {
		return api.ErrShape
	}
	_, e := firstBad(currents, func(c int) api.Errno {
		if !within(c, api.MaxCableCurrent) {
			return api.ErrRange
		}
		return api.OK
	})
	return e
}

// boxError is the error of the line and the box.
func boxError(l api.CableLine, b []api.Range) api.Errno {
	_, e := CheckBox(l, b)
	return e
}

// slackError is the error of slack of a valid line.
func slackError(l api.CableLine) api.Errno {
	for _, z := range (line{l}).lifts() {
		if z <= 0 {
			return api.ErrOpen
		}
	}
	return api.OK
}

// shapeError is the error of the line and the currents, and of slack.
func shapeError(l api.CableLine, currents []int) api.Errno {
	if e := currentsError(l, currents); e != api.OK {
		return e
	}
	return slackError(l)
}

// boxShapeError is the error of the line and the box, and of slack.
func boxShapeError(l api.CableLine, b []api.Range) api.Errno {
	if e := boxError(l, b); e != api.OK {
		return e
	}
	return slackError(l)
}
