package arm_test

import (
	"fmt"
	"math/rand/v2"
	"slices"
	"testing"

	"moonpool/api"
	"moonpool/arm"
)

// P6.4, P6.9, P6.10

// longScene has poses to which the shortest path has more moves than CheckPath takes.
func longScene() api.ArmScene {
	return api.ArmScene{
		Slide: 6,
		Links: []api.ArmLink{linkOf(4, -2, 2), linkOf(2, -2, 2), linkOf(4, -2, 2)},
		Field: boxOf(-8, 12, -6, 4),
		Boxes: []api.ArmBox{boxOf(6, 6, -3, -3), boxOf(1, 1, 4, 5), boxOf(9, 10, 4, 5), boxOf(-1, 0, -1, -1)},
	}
}

func TestCheckPath(t *testing.T) {
	slide, back, up, down := moveOf(api.ArmSlide, 1), moveOf(api.ArmSlide, -1), moveOf(1, 1), moveOf(1, -1)
	toAndFro := slices.Repeat([]api.ArmMove{up, down}, 31)
	for _, c := range []struct {
		name  string
		scene api.ArmScene
		from  api.ArmPose
		path  []api.ArmMove
		to    api.ArmPose
		count int
		err   api.Errno
	}{
		{"example 4", exampleScene(), poseOf(0, 0, 0), []api.ArmMove{slide, up}, poseOf(1, 0, 1), 2, api.OK},
		{"the other order", exampleScene(), poseOf(0, 0, 0), []api.ArmMove{up, slide}, poseOf(1, 0, 1), 2, api.OK},
		{"no moves", exampleScene(), poseOf(1, 0, -1), nil, poseOf(1, 0, -1), 0, api.OK},
		{"a path that is not the shortest", exampleScene(), poseOf(0, 0, 0), []api.ArmMove{slide, up, back, down, down}, poseOf(0, 0, -1), 5, api.OK},
		{"60 moves", exampleScene(), poseOf(0, 0, 0), toAndFro[:60], poseOf(0, 0, 0), 60, api.OK},
		{"61 moves", exampleScene(), poseOf(0, 0, 0), toAndFro[:61], api.ArmPose{}, 0, api.ErrLarge},
		{"61 moves, a bad one first", exampleScene(), poseOf(0, 0, 0), append([]api.ArmMove{moveOf(9, 9)}, toAndFro[:60]...), api.ArmPose{}, 0, api.ErrLarge},
		{"61 moves from a pose that is not free", busyScene(), poseOf(0, 0, 0), toAndFro[:61], api.ArmPose{}, 0, api.ErrBusy},
		{"no moves from a pose that is not free", exampleScene(), poseOf(1, 1, -1), nil, api.ArmPose{}, 0, api.ErrBusy},
		{"a joint that is missing", exampleScene(), poseOf(0, 0, 0), []api.ArmMove{slide, moveOf(2, 1)}, api.ArmPose{}, 1, api.ErrMissing},
		{"a joint that is missing, and no quarter", exampleScene(), poseOf(0, 0, 0), []api.ArmMove{moveOf(-2, 0)}, api.ArmPose{}, 0, api.ErrMissing},
		{"no quarter", exampleScene(), poseOf(0, 0, 0), []api.ArmMove{slide, up, moveOf(1, 0)}, api.ArmPose{}, 2, api.ErrRange},
		{"two quarters", exampleScene(), poseOf(0, 0, 0), []api.ArmMove{moveOf(1, -2)}, api.ArmPose{}, 0, api.ErrRange},
		{"a sweep that touches a box", exampleScene(), poseOf(0, 0, 0), []api.ArmMove{up, moveOf(0, 1)}, api.ArmPose{}, 1, api.ErrRefused},
		{"to a pose that is not free", exampleScene(), poseOf(0, 1, -1), []api.ArmMove{slide}, api.ArmPose{}, 0, api.ErrRefused},
		{"to a pose that is none of the scene", exampleScene(), poseOf(0, 0, 0), []api.ArmMove{up, up}, api.ArmPose{}, 1, api.ErrRefused},
		{"a slide that is none of the scene", exampleScene(), poseOf(0, 0, 0), []api.ArmMove{back}, api.ArmPose{}, 0, api.ErrRefused},
		{"refused before a bad one", exampleScene(), poseOf(0, 0, 0), []api.ArmMove{back, moveOf(9, 9)}, api.ArmPose{}, 0, api.ErrRefused},
		{"a bad one before refused", exampleScene(), poseOf(0, 0, 0), []api.ArmMove{moveOf(1, 9), back}, api.ArmPose{}, 0, api.ErrRange},
	} {
		p, n, e := arm.CheckPath(c.scene, c.from, c.path)
		want(t, "CheckPath: "+c.name, p, e, c.to, c.err)
		want(t, "how many moves: "+c.name, n, e, c.count, c.err)
	}
}

func TestPathTo(t *testing.T) {
	for _, c := range []struct {
		name     string
		scene    api.ArmScene
		from, to api.ArmPose
		path     string
		err      api.Errno
	}{
		{"example 4", exampleScene(), poseOf(0, 0, 0), poseOf(1, 0, 1), "-1 1;1 1", api.OK},
		{"example 4 back", exampleScene(), poseOf(1, 0, 1), poseOf(0, 0, 0), "-1 -1;1 -1", api.OK},
		{"the pose itself", exampleScene(), poseOf(1, 0, 1), poseOf(1, 0, 1), "", api.OK},
		{"one turn", exampleScene(), poseOf(0, 0, 0), poseOf(0, 0, -1), "1 -1", api.OK},
		{"without the box", withBoxes(), poseOf(0, 0, 0), poseOf(1, 1, 1), "-1 1;0 1;1 1", api.OK},
		{"the other quarters", exampleScene(), poseOf(0, 0, 0), poseOf(0, 1, -1), "", api.ErrNone},
		{"to a pose that is not free", exampleScene(), poseOf(0, 1, -1), poseOf(1, 1, -1), "", api.ErrNone},
		{"from a pose that is not free", exampleScene(), poseOf(1, 1, -1), poseOf(1, 0, 0), "", api.ErrBusy},
		{"from a pose that is not free to itself", exampleScene(), poseOf(1, 1, -1), poseOf(1, 1, -1), "", api.ErrBusy},
		{"By before the next joint", openScene(), poseOf(1, 0, 0, 0), poseOf(0, 1, -1, 1), "-1 -1;0 1;1 -1;2 1", api.OK},
		{"across all", openScene(), poseOf(6, -2, 2, -2), poseOf(4, 0, 1, -1), "-1 -1;-1 -1;0 1;0 1;1 -1;2 1", api.OK},
	} {
		l, e := arm.PathTo(c.scene, c.from, c.to)
		want(t, "PathTo: "+c.name, arm.FormatPath(l), e, c.path, c.err)
	}
}

func TestPathToCell(t *testing.T) {
	for _, c := range []struct {
		name  string
		scene api.ArmScene
		from  api.ArmPose
		cell  [2]int
		path  string
		err   api.Errno
	}{
		{"example 4", exampleScene(), poseOf(0, 0, 0), [2]int{4, 0}, "-1 1", api.OK},
		{"the tip is there", exampleScene(), poseOf(0, 0, 0), [2]int{3, 0}, "", api.OK},
		{"above the slide", exampleScene(), poseOf(0, 0, 0), [2]int{3, 1}, "-1 1;1 1", api.OK},
		{"a joint that is not the tip", exampleScene(), poseOf(0, 0, 0), [2]int{2, 0}, "", api.ErrNone},
		{"a pose that is not reached", exampleScene(), poseOf(0, 0, 0), [2]int{0, 3}, "", api.ErrNone},
		{"from there it is", exampleScene(), poseOf(0, 1, 1), [2]int{0, 3}, "1 -1", api.OK},
		{"in a box", exampleScene(), poseOf(0, 1, 0), [2]int{2, 2}, "", api.ErrNone},
		{"outside of the field", exampleScene(), poseOf(0, 0, 0), [2]int{20, -20}, "", api.ErrNone},
		{"X too great", exampleScene(), poseOf(0, 0, 0), [2]int{21, 0}, "", api.ErrRange},
		{"X too small", exampleScene(), poseOf(0, 0, 0), [2]int{-21, 0}, "", api.ErrRange},
		{"Y too great", exampleScene(), poseOf(0, 0, 0), [2]int{0, 21}, "", api.ErrRange},
		{"Y too small", exampleScene(), poseOf(0, 0, 0), [2]int{0, -21}, "", api.ErrRange},
		{"a bad cell before a pose that is not free", busyScene(), poseOf(0, 0, 0), [2]int{0, -21}, "", api.ErrRange},
		{"from a pose that is not free", busyScene(), poseOf(0, 0, 0), [2]int{4, 0}, "", api.ErrBusy},
		{"of several poses the one with the fewest moves", openScene(), poseOf(0, 0, 0, 0), [2]int{5, 9}, "2 1", api.OK},
		{"of several shortest paths the first one", openScene(), poseOf(0, 0, 0, 0), [2]int{1, 5}, "2 -1;2 -1", api.OK},
	} {
		l, e := arm.PathToCell(c.scene, c.from, c.cell)
		want(t, "PathToCell: "+c.name, arm.FormatPath(l), e, c.path, c.err)
	}
}

// tipsIn are the poses of a scene whose tip lies in a cell.
func tipsIn(s api.ArmScene, c [2]int) []api.ArmPose {
	return slices.DeleteFunc(allPoses(s), func(p api.ArmPose) bool {
		cells, _ := stepsOf(s, p)
		return cells[len(cells)-1] != c || !isFree(s, p)
	})
}

// randomTip is the cell of the tip of some pose.
func randomTip(r *rand.Rand, s api.ArmScene) [2]int {
	cells, _ := stepsOf(s, randomPose(r, s))
	return cells[len(cells)-1]
}

// TestShortestPaths compares paths with those that go down along distances, and checks what follows from them.
func TestShortestPaths(t *testing.T) {
	r := newRandom()
	var done [2]int
	for range 400 {
		s := randomScene(r)
		from, ok := randomFree(r, s)
		if !ok {
			continue
		}
		to := randomPose(r, s)
		wanted, found := []api.ArmMove(nil), false
		if isFree(s, to) {
			wanted, found = firstPath(s, from, []api.ArmPose{to})
		}
		path, e := arm.PathTo(s, from, to)
		want(t, fmt.Sprint("PathTo ", s, from, to), path, e, wanted, errorUnless(found))
		checkPath(t, s, from, to, path, e)
		cell := randomTip(r, s)
		wanted, found = firstPath(s, from, tipsIn(s, cell))
		path, e = arm.PathToCell(s, from, cell)
		want(t, fmt.Sprint("PathToCell ", s, from, cell), path, e, wanted, errorUnless(found))
		if e == api.OK {
			done[1]++
		} else {
			done[0]++
		}
	}
	if min(done[0], done[1]) < 50 {
		t.Errorf("so many cells are not reached, and reached: %v: too few of one kind are tested", done)
	}
}

// errorUnless is ErrNone unless something was found.
func errorUnless(found bool) api.Errno {
	if found {
		return api.OK
	}
	return api.ErrNone
}

// checkPath checks that a path touches nothing, leads there and back, and has as many moves as the reached poses say.
func checkPath(t *testing.T, s api.ArmScene, from, to api.ArmPose, path []api.ArmMove, e api.Errno) {
	t.Helper()
	reached, _ := arm.ReachedFrom(s, from)
	i := slices.IndexFunc(reached, func(x api.ArmReached) bool { return keyOf(x.Pose) == keyOf(to) })
	if (i >= 0) != (e == api.OK) {
		t.Fatalf("%v from %v: PathTo %v has the error %d, the reached poses are %v", s, from, to, e, reached)
	}
	if e != api.OK {
		return
	}
	p, n, e := arm.CheckPath(s, from, path)
	want(t, fmt.Sprint("CheckPath ", s, from, path), p, e, to, api.OK)
	want(t, fmt.Sprint("how many moves ", s, from, path), n, e, reached[i].Moves, api.OK)
	p, n, e = arm.CheckPath(s, to, reversed(path))
	want(t, fmt.Sprint("CheckPath backwards ", s, from, path), p, e, from, api.OK)
	want(t, fmt.Sprint("how many moves backwards ", s, from, path), n, e, len(path), api.OK)
	for i := range path {
		p, _, e := arm.CheckPath(s, from, path[:i])
		free, _ := arm.IsFree(s, p)
		want(t, fmt.Sprint("IsFree on the way ", s, from, path[:i]), free, e, true, api.OK)
	}
}

// TestAnyPaths follows any moves, of which many are refused.
func TestAnyPaths(t *testing.T) {
	r := newRandom()
	refused, accepted := 0, 0
	for range 1000 {
		s := randomScene(r)
		from, ok := randomFree(r, s)
		if !ok {
			continue
		}
		var path []api.ArmMove
		for range r.IntN(8) {
			all := allMoves(s)
			path = append(path, all[r.IntN(len(all))])
		}
		to, count, err := from, len(path), api.OK
		for i, m := range path {
			next, ok := made(s, to, m)
			if !ok {
				to, count, err = api.ArmPose{}, i, api.ErrRefused
				break
			}
			to = next
		}
		p, n, e := arm.CheckPath(s, from, path)
		want(t, fmt.Sprint("CheckPath ", s, from, path), p, e, to, err)
		want(t, fmt.Sprint("CheckPath's number ", s, from, path), n, e, count, err)
		if err == api.OK {
			accepted++
			p, _, e = arm.CheckPath(s, to, reversed(path))
			want(t, fmt.Sprint("CheckPath backwards ", s, from, path), p, e, from, api.OK)
			continue
		}
		refused++
	}
	if min(refused, accepted) < 100 {
		t.Errorf("%d paths are refused, and %d accepted: too few of one kind are tested", refused, accepted)
	}
}

// TestLongPaths has a path of more moves than those that are checked at once: a limit of an argument does not hold for results.
func TestLongPaths(t *testing.T) {
	s, from, to := longScene(), poseOf(6, -2, 2, 2), poseOf(6, 2, 2, 2)
	wanted, _ := firstPath(s, from, []api.ArmPose{to})
	if len(wanted) <= api.MaxArmPath {
		t.Fatalf("no path has more than %d moves", len(wanted))
	}
	path, e := arm.PathTo(s, from, to)
	want(t, "PathTo of a long path", path, e, wanted, api.OK)
	p, n, e := arm.CheckPath(s, from, path)
	want(t, "CheckPath of a long path", p, e, api.ArmPose{}, api.ErrLarge)
	want(t, "CheckPath's number of a long path", n, e, 0, api.ErrLarge)
	for part := range slices.Chunk(path, api.MaxArmPath) {
		from, n, e = arm.CheckPath(s, from, part)
		want(t, "CheckPath's number of a part of a long path", n, e, len(part), api.OK)
	}
	want(t, "to which the parts lead", from, e, to, api.OK)
}
