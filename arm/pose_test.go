package arm_test

import (
	"fmt"
	"slices"
	"testing"

	"moonpool/api"
	"moonpool/arm"
)

// P6.2

func TestPoses(t *testing.T) {
	folded := withLinks(linkOf(2, 0, 0), linkOf(3, -2, 2), linkOf(1, -2, 2))
	folded.Field = boxOf(-3, 9, -3, 9)
	for _, c := range []struct {
		name          string
		scene         api.ArmScene
		pose          api.ArmPose
		joints, cells [][2]int
		free          bool
	}{
		{"example 1", exampleScene(), poseOf(0, 0, 0), [][2]int{{0, 0}, {2, 0}, {3, 0}}, [][2]int{{0, 0}, {1, 0}, {2, 0}, {3, 0}}, true},
		{"example 1, too", exampleScene(), poseOf(0, 1, -1), [][2]int{{0, 0}, {0, 2}, {1, 2}}, [][2]int{{0, 0}, {0, 1}, {0, 2}, {1, 2}}, true},
		{"after the slide it ends in the box", exampleScene(), poseOf(1, 1, -1), [][2]int{{1, 0}, {1, 2}, {2, 2}}, [][2]int{{1, 0}, {1, 1}, {1, 2}, {2, 2}}, false},
		{"to the left", exampleScene(), poseOf(0, 1, 1), [][2]int{{0, 0}, {0, 2}, {-1, 2}}, [][2]int{{-1, 2}, {0, 0}, {0, 1}, {0, 2}}, true},
		{"downwards", exampleScene(), poseOf(1, 0, -1), [][2]int{{1, 0}, {3, 0}, {3, -1}}, [][2]int{{1, 0}, {2, 0}, {3, -1}, {3, 0}}, true},
		{"folded onto itself", folded, poseOf(0, 0, 2, 2), [][2]int{{0, 0}, {2, 0}, {-1, 0}, {0, 0}}, [][2]int{{-1, 0}, {0, 0}, {1, 0}, {2, 0}}, true},
		{"folded the other way", folded, poseOf(1, 0, -2, -2), [][2]int{{1, 0}, {3, 0}, {0, 0}, {1, 0}}, [][2]int{{0, 0}, {1, 0}, {2, 0}, {3, 0}}, true},
		{"around", folded, poseOf(0, 0, -1, -1), [][2]int{{0, 0}, {2, 0}, {2, -3}, {1, -3}}, [][2]int{{0, 0}, {1, -3}, {1, 0}, {2, -3}, {2, -2}, {2, -1}, {2, 0}}, true},
		{"the sum of quarters is modulo 4", folded, poseOf(0, 0, -2, -1), [][2]int{{0, 0}, {2, 0}, {-1, 0}, {-1, 1}}, [][2]int{{-1, 0}, {-1, 1}, {0, 0}, {1, 0}, {2, 0}}, true},
		{"a box that a link crosses", withBoxes(boxOf(1, 1, 0, 0)), poseOf(0, 0, 0), [][2]int{{0, 0}, {2, 0}, {3, 0}}, [][2]int{{0, 0}, {1, 0}, {2, 0}, {3, 0}}, false},
		{"a box at the base", busyScene(), poseOf(0, 0, 0), [][2]int{{0, 0}, {2, 0}, {3, 0}}, [][2]int{{0, 0}, {1, 0}, {2, 0}, {3, 0}}, false},
		{"a box at the tip", withBoxes(boxOf(3, 3, -1, 0)), poseOf(0, 0, 0), [][2]int{{0, 0}, {2, 0}, {3, 0}}, [][2]int{{0, 0}, {1, 0}, {2, 0}, {3, 0}}, false},
		{"a box beside it", withBoxes(boxOf(0, 4, 1, 4)), poseOf(0, 0, 0), [][2]int{{0, 0}, {2, 0}, {3, 0}}, [][2]int{{0, 0}, {1, 0}, {2, 0}, {3, 0}}, true},
		{"without boxes out of the field", changed(func(s *api.ArmScene) { s.Field, s.Boxes = boxOf(-1, 2, -1, 4), nil }), poseOf(0, 0, 0), [][2]int{{0, 0}, {2, 0}, {3, 0}}, [][2]int{{0, 0}, {1, 0}, {2, 0}, {3, 0}}, false},
		{"the base slides out of the field", changed(func(s *api.ArmScene) { s.Field, s.Slide = boxOf(-1, 4, -1, 4), 6 }), poseOf(6, 1, 1), [][2]int{{6, 0}, {6, 2}, {5, 2}}, [][2]int{{5, 2}, {6, 0}, {6, 1}, {6, 2}}, false},
	} {
		joints, e := arm.JointsOf(c.scene, c.pose)
		want(t, "JointsOf: "+c.name, joints, e, c.joints, api.OK)
		cells, e := arm.CellsOf(c.scene, c.pose)
		want(t, "CellsOf: "+c.name, cells, e, c.cells, api.OK)
		free, e := arm.IsFree(c.scene, c.pose)
		want(t, "IsFree: "+c.name, free, e, c.free, api.OK)
	}
}

func TestPosesCellByCell(t *testing.T) {
	r := newRandom()
	var free [2]int
	for range 500 {
		s := randomScene(r)
		p := randomPose(r, s)
		cells, joints := stepsOf(s, p)
		for i, at := range joints {
			got, e := arm.JointsOf(s, p)
			want(t, fmt.Sprint("JointsOf ", s, p, i), got[i], e, cells[at], api.OK)
		}
		slices.SortFunc(cells, func(a, b [2]int) int { return slices.Compare(a[:], b[:]) })
		got, e := arm.CellsOf(s, p)
		want(t, fmt.Sprint("CellsOf ", s, p), got, e, slices.Compact(cells), api.OK)
		is, e := arm.IsFree(s, p)
		want(t, fmt.Sprint("IsFree ", s, p), is, e, isFree(s, p), api.OK)
		if is {
			free[1]++
		} else {
			free[0]++
		}
	}
	if min(free[0], free[1]) < 100 {
		t.Errorf("so many poses are not free, and free: %v: too few of one kind are tested", free)
	}
}
