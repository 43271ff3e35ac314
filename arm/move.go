package arm

import (
	"iter"
	"slices"

	"moonpool/api"
	"moonpool/rules"
)

// Moved is in P6.3.
func Moved(s api.ArmScene, p api.ArmPose, m api.ArmMove) (api.ArmPose, api.Errno) {
	_, after, e := beforeAndAfter(s, p, m)
	if e != api.OK {
		return api.ArmPose{}, e
	}
	return after.given(), api.OK
}

// SweepOf is in P6.3.
func SweepOf(s api.ArmScene, p api.ArmPose, m api.ArmMove) (api.ArmBox, api.Errno) {
	before, after, e := beforeAndAfter(s, p, m)
	if e != api.OK {
		return api.ArmBox{}, e
	}
	return api.ArmBox(sweep(before, after, m.Joint)), api.OK
}

// MovesFrom is in P6.3.
func MovesFrom(s api.ArmScene, p api.ArmPose) ([]api.ArmMove, api.Errno) {
	a, e := newFreeArm(s, p)
	if e != api.OK {
		return nil, e
	}
	var moves []api.ArmMove
	for m := range a.moves() {
		moves = append(moves, m)
	}
	return moves, api.OK
}

// beforeAndAfter is an arm before and after a move, whether it may be made or not.
func beforeAndAfter(s api.ArmScene, p api.ArmPose, m api.ArmMove) (before, after arm, e api.Errno) {
	if e := rules.FirstError(CheckPose(s, p), moveError(s, m)); e != api.OK {
		return arm{}, arm{}, e
	}
	before = newArm(s, p)
	after = before.moved(m)
	if !after.isPose() {
		return arm{}, arm{}, api.ErrBreak
	}
	return before, after, api.OK
}

func moveError(s api.ArmScene, m api.ArmMove) api.Errno {
	if m.Joint != api.ArmSlide && (m.Joint < 0 || m.Joint >= len(s.Links)) {
		return api.ErrMissing
	}
	if m.By != 1 && m.By != -1 {
		return api.ErrRange
	}
	return api.OK
}

// moved is an arm after a move, in a pose of the scene or not.
func (a arm) moved(m api.ArmMove) arm {
	if m.Joint == api.ArmSlide {
		a.slide += m.By
	} else {
		a.quarters[m.Joint] += m.By
	}
	return a
}

// isPose is whether the pose of an arm is one of the scene.
func (a arm) isPose() bool { return poseError(a.ArmScene, a.given()) == api.OK }

// sweep is that of a move of a joint. Links are straight: the box around their ends contains all of their cells.
func sweep(before, after arm, joint int) box {
	first := max(joint, 0)
	ends := slices.Concat(before.joints()[first:], after.joints()[first:])
	return around(ends[0], ends[1:]...)
}

// moves yields the moves that may be made from a free pose, in their order, and the arm after each of them.
func (a arm) moves() iter.Seq2[api.ArmMove, arm] {
	return func(yield func(m api.ArmMove, after arm) bool) {
		for joint := api.ArmSlide; joint < len(a.Links); joint++ {
			for _, by := range []int{-1, 1} {
				m := api.ArmMove{Joint: joint, By: by}
				if after, ok := a.made(m); ok && !yield(m, after) {
					return
				}
			}
		}
	}
}

// made is an arm after a move from a free pose. It is false if this may not be made.
func (a arm) made(m api.ArmMove) (arm, bool) {
	after := a.moved(m)
	return after, after.isPose() && after.isFree() && !a.isTaken(sweep(a, after, m.Joint))
}
