package fix

import (
	"moonpool/api"
	"moonpool/rules"
)

// CheckSteps is in P5.5.
func CheckSteps(n api.FixNet, l []api.FixStep) (int, api.Errno) {
	if e := netError(n); e != api.OK {
		return 0, e
	}
	return rules.CheckList(l, 0, api.MaxFixSteps, func(s api.FixStep) api.Errno {
		return rules.FirstError(moveError(s.Move), voteError(n, s.Vote))
	})
}

// After is in P5.5.
func After(n api.FixNet, b api.FixBox, s api.FixStep) (api.FixBox, api.Errno) {
	if e := rules.FirstError(CheckBox(n, b), moveError(s.Move), voteError(n, s.Vote)); e != api.OK {
		return api.FixBox{}, e
	}
	carried, e := Carried(n, b, s.Move)
	if e != api.OK {
		return api.FixBox{}, e
	}
	after, _, e := VotedIn(n, carried, s.Vote)
	return after, e
}

// TrackOf is in P5.5.
func TrackOf(n api.FixNet, b api.FixBox, l []api.FixStep) ([]api.FixBox, api.Errno) {
	if e := trackError(n, b, l); e != api.OK {
		return nil, e
	}
	var track []api.FixBox
	for _, s := range l {
		after, e := After(n, b, s)
		if e != api.OK {
			return nil, e
		}
		track = append(track, after)
		b = after
	}
	return track, api.OK
}

// SmoothedOf is in P5.5. What the box of the track has in common with one that is carried back lies in the world, whether or not that one is cut off.
// It is never empty: each position of a box that was carried comes from one of the box before.
func SmoothedOf(n api.FixNet, b api.FixBox, l []api.FixStep) ([]api.FixBox, api.Errno) {
	track, e := TrackOf(n, b, l)
	if e != api.OK {
		return nil, e
	}
	boxes := append([]api.FixBox{b}, track...)
	for i := len(l) - 1; i >= 0; i-- {
		back := boxOf(boxes[i+1]).carried(reversed(l[i].Move))
		boxes[i] = boxOf(boxes[i]).common(back).given()
	}
	return boxes, api.OK
}

// IsPath is in P5.5.
func IsPath(n api.FixNet, b api.FixBox, l []api.FixStep, path []api.FixPlace) (bool, api.Errno) {
	if e := trackError(n, b, l); e != api.OK {
		return false, e
	}
	if len(path) != len(l)+1 {
		return false, api.ErrShape
	}
	at := placeOf(path[0])
	if !at.alone().liesIn(boxOf(b)) {
		return false, api.OK
	}
	for i, s := range l {
		next := placeOf(path[i+1])
		if !newSearch(n, s.Vote.Readings).goesOn(at, next, s) {
			return false, api.OK
		}
		at = next
	}
	return true, api.OK
}

// trackError is the error of a net, a box and steps.
func trackError(n api.FixNet, b api.FixBox, l []api.FixStep) api.Errno {
	_, e := CheckSteps(n, l)
	return rules.FirstError(CheckBox(n, b), e)
}

// goesOn is whether a path goes on from a position to the next one by a step, in whose readings is searched.
func (s search) goesOn(at, next place, step api.FixStep) bool {
	reached := at.alone().carried(step.Move).common(boxOf(s.World))
	return next.alone().liesIn(reached) && s.wrongAt(next).Size() <= step.Vote.Wrong
}
