package arm

import (
	"iter"
	"slices"

	"moonpool/api"
	"moonpool/rules"
)

// visit is an arm in a reached pose: how many moves lead to it, the last one of them, and the visit before it (nil for the beginning).
type visit struct {
	arm
	count  int
	by     api.ArmMove
	before *visit
}

// CheckPath is in P6.4.
func CheckPath(s api.ArmScene, from api.ArmPose, path []api.ArmMove) (api.ArmPose, int, api.Errno) {
	a, e := newFreeArm(s, from)
	if e = rules.FirstError(e, pathError(path)); e != api.OK {
		return api.ArmPose{}, 0, e
	}
	for i, m := range path {
		if e := moveError(s, m); e != api.OK {
			return api.ArmPose{}, i, e
		}
		after, ok := a.made(m)
		if !ok {
			return api.ArmPose{}, i, api.ErrRefused
		}
		a = after
	}
	return a.given(), len(path), api.OK
}

// PathTo is in P6.4.
func PathTo(s api.ArmScene, from, to api.ArmPose) ([]api.ArmMove, api.Errno) {
	if e := rules.FirstError(CheckPose(s, from), CheckPose(s, to)); e != api.OK {
		return nil, e
	}
	wanted := newArm(s, to).pose
	return pathWhere(s, from, func(a arm) bool { return a.pose == wanted })
}

// PathToCell is in P6.4.
func PathToCell(s api.ArmScene, from api.ArmPose, c [2]int) ([]api.ArmMove, api.Errno) {
	if e := rules.FirstError(CheckPose(s, from), rules.SizeError(api.MaxArmField, c[:]...)); e != api.OK {
		return nil, e
	}
	return pathWhere(s, from, func(a arm) bool { return a.joints()[len(a.Links)] == c })
}

func pathError(path []api.ArmMove) api.Errno {
	if len(path) > api.MaxArmPath {
		return api.ErrLarge
	}
	return api.OK
}

// pathWhere is the shortest path to any arm that is wanted.
func pathWhere(s api.ArmScene, from api.ArmPose, isWanted func(a arm) bool) ([]api.ArmMove, api.Errno) {
	a, e := newFreeArm(s, from)
	if e != api.OK {
		return nil, e
	}
	for v := range a.visits() {
		if isWanted(v.arm) {
			return v.path(), api.OK
		}
	}
	return nil, api.ErrNone
}

// visits yields each reached pose once, by the shortest path that leads to it.
// Their order is that of these paths, because moves are made in their order, and what was reached first goes on first.
func (a arm) visits() iter.Seq[*visit] {
	return func(yield func(v *visit) bool) {
		waiting := []*visit{{arm: a}}
		known := map[pose]bool{a.pose: true}
		for len(waiting) > 0 {
			v := waiting[0]
			waiting = waiting[1:]
			if !yield(v) {
				return
			}
			for m, after := range v.moves() {
				if !known[after.pose] {
					known[after.pose] = true
					waiting = append(waiting, &visit{arm: after, count: v.count + 1, by: m, before: v})
				}
			}
		}
	}
}

// path is the moves that lead to a visit.
func (v *visit) path() []api.ArmMove {
	var path []api.ArmMove
	for ; v.before != nil; v = v.before {
		path = append(path, v.by)
	}
	slices.Reverse(path)
	return path
}
