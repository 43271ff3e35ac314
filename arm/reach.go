package arm

import (
	"slices"

	"moonpool/api"
	"moonpool/rules"
)

// ReachedFrom is in P6.4.
func ReachedFrom(s api.ArmScene, from api.ArmPose) ([]api.ArmReached, api.Errno) {
	a, e := newFreeArm(s, from)
	if e != api.OK {
		return nil, e
	}
	visits := slices.SortedFunc(a.visits(), func(v, w *visit) int { return comparePoses(v.pose, w.pose) })
	reached := make([]api.ArmReached, len(visits))
	for i, v := range visits {
		reached[i] = api.ArmReached{Pose: v.given(), Moves: v.count}
	}
	return reached, api.OK
}

// CheckReached is in P6.4.
func CheckReached(s api.ArmScene, from api.ArmPose, l []api.ArmReached) (int, api.Errno) {
	a, e := newFreeArm(s, from)
	if e != api.OK {
		return 0, e
	}
	if i, e := rules.FirstBad(l, a.reachedErrors()); e != api.OK {
		return i, e
	}
	counts := map[pose]int{}
	for _, r := range l {
		counts[newArm(s, r.Pose).pose] = r.Moves
	}
	if _, ok := counts[a.pose]; !ok {
		return 0, api.ErrMissing
	}
	return rules.FirstBad(l, func(r api.ArmReached) api.Errno { return newArm(s, r.Pose).proofError(counts) })
}

// reachedErrors makes the function that finds the errors of poses one after another, which an arm is said to reach.
func (a arm) reachedErrors() func(r api.ArmReached) api.Errno {
	var before *pose
	return func(r api.ArmReached) api.Errno {
		if e := poseError(a.ArmScene, r.Pose); e != api.OK {
			return e
		}
		b := newArm(a.ArmScene, r.Pose)
		switch {
		case before != nil && comparePoses(*before, b.pose) >= 0:
			return api.ErrOrder
		case !b.isFree():
			return api.ErrBusy
		case r.Moves < 0 || (r.Moves == 0) != (b.pose == a.pose):
			return api.ErrRange
		}
		before = &b.pose
		return api.OK
	}
}

// proofError is the error of the moves that are said to lead to an arm, beside those to the poses around it.
// None is negative, and 0 alone is that of the beginning.
func (a arm) proofError(counts map[pose]int) api.Errno {
	count := counts[a.pose]
	isNext := count == 0
	for _, after := range a.moves() {
		other, ok := counts[after.pose]
		if !ok {
			return api.ErrOpen
		}
		// One less than the other one, because one more than this one may be no int.
		if other-1 > count {
			return api.ErrProof
		}
		isNext = isNext || other == count-1
	}
	if !isNext {
		return api.ErrProof
	}
	return api.OK
}
