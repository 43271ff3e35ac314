package arm_test

import (
	"fmt"
	"math/rand/v2"
	"slices"
	"testing"

	"moonpool/api"
	"moonpool/arm"
)

// want compares a result and an error. Results are compared as they are printed: a nil slice and an empty one are the same result.
func want(t *testing.T, what string, got any, e api.Errno, wanted any, err api.Errno) {
	t.Helper()
	if fmt.Sprint(got) != fmt.Sprint(wanted) || e != err {
		t.Errorf("%s: %v, error %d, want %v, error %d", what, got, e, wanted, err)
	}
}

func spanOf(lo, hi int) api.Range { return api.Range{Lo: lo, Hi: hi} }

func boxOf(lowX, highX, lowY, highY int) api.ArmBox {
	return api.ArmBox{X: spanOf(lowX, highX), Y: spanOf(lowY, highY)}
}

func linkOf(length, lo, hi int) api.ArmLink {
	return api.ArmLink{Length: length, Quarters: spanOf(lo, hi)}
}

func poseOf(slide int, quarters ...int) api.ArmPose {
	return api.ArmPose{Slide: slide, Quarters: quarters}
}

func moveOf(joint, by int) api.ArmMove { return api.ArmMove{Joint: joint, By: by} }

func reachedOf(moves, slide int, quarters ...int) api.ArmReached {
	return api.ArmReached{Pose: poseOf(slide, quarters...), Moves: moves}
}

// exampleScene is the scene s of the chapter's examples.
func exampleScene() api.ArmScene {
	return api.ArmScene{
		Slide: 1,
		Links: []api.ArmLink{linkOf(2, 0, 1), linkOf(1, -1, 1)},
		Field: boxOf(-1, 4, -1, 4),
		Boxes: []api.ArmBox{boxOf(2, 2, 2, 2)},
	}
}

// exampleReached is the reached poses of example 3.
func exampleReached() []api.ArmReached {
	return []api.ArmReached{
		reachedOf(1, 0, 0, -1), reachedOf(0, 0, 0, 0), reachedOf(1, 0, 0, 1),
		reachedOf(2, 1, 0, -1), reachedOf(1, 1, 0, 0), reachedOf(2, 1, 0, 1),
	}
}

// busyScene is the example's scene with a box at the base.
func busyScene() api.ArmScene {
	s := exampleScene()
	s.Boxes = append(s.Boxes, boxOf(0, 0, 0, 0))
	return s
}

// openScene has no boxes, and a field in which all poses are free.
func openScene() api.ArmScene {
	return api.ArmScene{
		Base:  [2]int{-3, 5},
		Slide: 6,
		Links: []api.ArmLink{linkOf(4, -2, 2), linkOf(4, -2, 2), linkOf(4, -2, 2)},
		Field: boxOf(-20, 20, -20, 20),
	}
}

func newRandom() *rand.Rand { return rand.New(rand.NewPCG(6, 6)) }

// between is a random number from low to high.
func between(r *rand.Rand, low, high int) int { return low + r.IntN(high-low+1) }

// randomSpan is a random range in another one.
func randomSpan(r *rand.Rand, in api.Range) api.Range {
	lo := between(r, in.Lo, in.Hi)
	return spanOf(lo, between(r, lo, in.Hi))
}

func randomBox(r *rand.Rand) api.ArmBox {
	x, y := between(r, -6, 8), between(r, -6, 6)
	return boxOf(x, x+r.IntN(2), y, y+r.IntN(2))
}

// randomScene has some poses that are free, most often, and some that are not.
func randomScene(r *rand.Rand) api.ArmScene {
	s := api.ArmScene{
		Base:  [2]int{between(r, -1, 1), between(r, -1, 1)},
		Slide: r.IntN(4),
		Field: boxOf(-1-r.IntN(6), 1+r.IntN(8), -1-r.IntN(6), 1+r.IntN(6)),
	}
	for range between(r, 1, 3) {
		s.Links = append(s.Links, api.ArmLink{Length: between(r, 1, 3), Quarters: randomSpan(r, spanOf(-2, 2))})
	}
	for range r.IntN(4) {
		s.Boxes = append(s.Boxes, randomBox(r))
	}
	return s
}

func randomPose(r *rand.Rand, s api.ArmScene) api.ArmPose {
	p := poseOf(r.IntN(s.Slide + 1))
	for _, l := range s.Links {
		p.Quarters = append(p.Quarters, between(r, l.Quarters.Lo, l.Quarters.Hi))
	}
	return p
}

// randomFree is a free pose of a scene. It is false if none was found.
func randomFree(r *rand.Rand, s api.ArmScene) (api.ArmPose, bool) {
	for range 20 {
		if p := randomPose(r, s); isFree(s, p) {
			return p, true
		}
	}
	return api.ArmPose{}, false
}

// allMoves are those of a scene, in their order.
func allMoves(s api.ArmScene) []api.ArmMove {
	l := []api.ArmMove{moveOf(api.ArmSlide, -1), moveOf(api.ArmSlide, 1)}
	for joint := range s.Links {
		l = append(l, moveOf(joint, -1), moveOf(joint, 1))
	}
	return l
}

// allPoses are those of a scene, in their order.
func allPoses(s api.ArmScene) []api.ArmPose {
	var all []api.ArmPose
	for slide := range s.Slide + 1 {
		all = append(all, turnedPoses(s, poseOf(slide))...)
	}
	return all
}

// turnedPoses are all poses that have the first quarters of a pose.
func turnedPoses(s api.ArmScene, p api.ArmPose) []api.ArmPose {
	i := len(p.Quarters)
	if i == len(s.Links) {
		return []api.ArmPose{p}
	}
	var all []api.ArmPose
	for q := s.Links[i].Quarters.Lo; q <= s.Links[i].Quarters.Hi; q++ {
		all = append(all, turnedPoses(s, poseOf(p.Slide, append(slices.Clone(p.Quarters), q)...))...)
	}
	return all
}

// turned is a direction after quarters, one by one.
func turned(d [2]int, quarters int) [2]int {
	for ; quarters > 0; quarters-- {
		d = [2]int{-d[1], d[0]}
	}
	for ; quarters < 0; quarters++ {
		d = [2]int{d[1], -d[0]}
	}
	return d
}

// stepsOf are the cells of an arm from its base to its tip, cell by cell, and the indexes of the joints among them.
func stepsOf(s api.ArmScene, p api.ArmPose) (cells [][2]int, joints []int) {
	at, d := [2]int{s.Base[0] + p.Slide, s.Base[1]}, [2]int{1, 0}
	cells, joints = [][2]int{at}, []int{0}
	for i, l := range s.Links {
		d = turned(d, p.Quarters[i])
		for range l.Length {
			at = [2]int{at[0] + d[0], at[1] + d[1]}
			cells = append(cells, at)
		}
		joints = append(joints, len(cells)-1)
	}
	return cells, joints
}

func isIn(c [2]int, b api.ArmBox) bool {
	return b.X.Lo <= c[0] && c[0] <= b.X.Hi && b.Y.Lo <= c[1] && c[1] <= b.Y.Hi
}

func isTaken(s api.ArmScene, c [2]int) bool {
	return !isIn(c, s.Field) || slices.ContainsFunc(s.Boxes, func(b api.ArmBox) bool { return isIn(c, b) })
}

func isFree(s api.ArmScene, p api.ArmPose) bool {
	cells, _ := stepsOf(s, p)
	return !slices.ContainsFunc(cells, func(c [2]int) bool { return isTaken(s, c) })
}

// isPose is whether a pose that has the right number of quarters is one of a scene.
func isPose(s api.ArmScene, p api.ArmPose) bool {
	for i, l := range s.Links {
		if q := p.Quarters[i]; q < l.Quarters.Lo || q > l.Quarters.Hi {
			return false
		}
	}
	return p.Slide >= 0 && p.Slide <= s.Slide
}

// after is the pose after a move. It is false if this is no pose of the scene.
func after(s api.ArmScene, p api.ArmPose, m api.ArmMove) (api.ArmPose, bool) {
	p.Quarters = slices.Clone(p.Quarters)
	if m.Joint == api.ArmSlide {
		p.Slide += m.By
	} else {
		p.Quarters[m.Joint] += m.By
	}
	return p, isPose(s, p)
}

// sweepOf is the sweep of a move between two poses, as the box around all cells that are named.
func sweepOf(s api.ArmScene, p, q api.ArmPose, m api.ArmMove) api.ArmBox {
	var swept [][2]int
	for _, x := range []api.ArmPose{p, q} {
		cells, joints := stepsOf(s, x)
		if m.Joint != api.ArmSlide {
			cells = cells[joints[m.Joint]:]
		}
		swept = append(swept, cells...)
	}
	b := boxOf(swept[0][0], swept[0][0], swept[0][1], swept[0][1])
	for _, c := range swept {
		b = boxOf(min(b.X.Lo, c[0]), max(b.X.Hi, c[0]), min(b.Y.Lo, c[1]), max(b.Y.Hi, c[1]))
	}
	return b
}

// made is the pose after a move. It is false if this may not be made.
func made(s api.ArmScene, p api.ArmPose, m api.ArmMove) (api.ArmPose, bool) {
	q, ok := after(s, p, m)
	if !ok || !isFree(s, p) || !isFree(s, q) {
		return q, false
	}
	b := sweepOf(s, p, q, m)
	for x := b.X.Lo; x <= b.X.Hi; x++ {
		for y := b.Y.Lo; y <= b.Y.Hi; y++ {
			if isTaken(s, [2]int{x, y}) {
				return q, false
			}
		}
	}
	return q, true
}

func keyOf(p api.ArmPose) string { return fmt.Sprint(p) }

// countsFrom are, by poses, the fewest moves from some of them, found by shortening them until nothing changes. Moves may be made in both directions.
func countsFrom(s api.ArmScene, from ...api.ArmPose) map[string]int {
	counts := map[string]int{}
	for _, p := range from {
		counts[keyOf(p)] = 0
	}
	for changed := true; changed; {
		changed = false
		for _, p := range allPoses(s) {
			n, ok := counts[keyOf(p)]
			if !ok {
				continue
			}
			for _, m := range allMoves(s) {
				q, ok := made(s, p, m)
				if k, is := counts[keyOf(q)]; ok && (!is || k > n+1) {
					counts[keyOf(q)] = n + 1
					changed = true
				}
			}
		}
	}
	return counts
}

// firstPath goes on from a pose by the first move that comes nearer to any of some others. It is false if there is no path.
func firstPath(s api.ArmScene, from api.ArmPose, to []api.ArmPose) ([]api.ArmMove, bool) {
	counts := countsFrom(s, to...)
	left, ok := counts[keyOf(from)]
	if !ok {
		return nil, false
	}
	var path []api.ArmMove
	for ; left > 0; left-- {
		for _, m := range allMoves(s) {
			q, ok := made(s, from, m)
			if k, is := counts[keyOf(q)]; ok && is && k == left-1 {
				path, from = append(path, m), q
				break
			}
		}
	}
	return path, true
}

// reversed is a path backwards, with the opposite moves.
func reversed(path []api.ArmMove) []api.ArmMove {
	back := make([]api.ArmMove, len(path))
	for i, m := range path {
		back[len(path)-1-i] = moveOf(m.Joint, -m.By)
	}
	return back
}

func TestExamplesAreValid(t *testing.T) {
	for _, s := range []api.ArmScene{exampleScene(), busyScene(), openScene(), longScene()} {
		i, e := arm.CheckScene(s)
		want(t, fmt.Sprint("CheckScene of ", s), i, e, 0, api.OK)
	}
	r := newRandom()
	for range 1000 {
		s := randomScene(r)
		want(t, fmt.Sprint("CheckPose in ", s), nil, arm.CheckPose(s, randomPose(r, s)), nil, api.OK)
	}
}
