package arm_test

import (
	"fmt"
	"math"
	"slices"
	"testing"

	"moonpool/api"
	"moonpool/arm"
)

// P6.1

// changed is the example's scene after a change.
func changed(change func(s *api.ArmScene)) api.ArmScene {
	s := exampleScene()
	change(&s)
	return s
}

func withField(lowX, highX, lowY, highY int) api.ArmScene {
	return changed(func(s *api.ArmScene) { s.Field = boxOf(lowX, highX, lowY, highY) })
}

func withBase(x, y int) api.ArmScene {
	return changed(func(s *api.ArmScene) { s.Base = [2]int{x, y} })
}

func withSlide(n int) api.ArmScene { return changed(func(s *api.ArmScene) { s.Slide = n }) }

func withLinks(l ...api.ArmLink) api.ArmScene {
	return changed(func(s *api.ArmScene) { s.Links = l })
}

func withBoxes(l ...api.ArmBox) api.ArmScene {
	return changed(func(s *api.ArmScene) { s.Boxes = l })
}

// badScene is a scene with its error.
type badScene struct {
	name  string
	scene api.ArmScene
	index int
	err   api.Errno
}

func badScenes() []badScene {
	good, box := linkOf(1, 0, 0), boxOf(0, 0, 0, 0)
	return []badScene{
		{"X of the field too small", withField(-21, 4, -1, 4), 0, api.ErrRange},
		{"X of the field too great", withField(-1, 21, -1, 4), 0, api.ErrRange},
		{"Y of the field too small", withField(-1, 4, -21, 4), 0, api.ErrRange},
		{"Y of the field too great", withField(-1, 4, -1, 21), 0, api.ErrRange},
		{"the least int", withField(math.MinInt, 4, -1, 4), 0, api.ErrRange},
		{"X of the field in the wrong order", withField(1, 0, -1, 4), 0, api.ErrOrder},
		{"Y of the field in the wrong order", withField(-1, 4, 1, 0), 0, api.ErrOrder},
		{"the size of Y before the order of X", withField(1, 0, -1, 21), 0, api.ErrRange},
		{"the order of the field before the base", changed(func(s *api.ArmScene) { s.Field, s.Slide = boxOf(1, 0, 0, 0), 7 }), 0, api.ErrOrder},
		{"the base left of the field", withBase(-2, 0), 0, api.ErrRange},
		{"the base right of it", withBase(5, 0), 0, api.ErrRange},
		{"the base below it", withBase(0, -2), 0, api.ErrRange},
		{"the base above it", withBase(0, 5), 0, api.ErrRange},
		{"the base far outside of it", withBase(math.MinInt, math.MaxInt), 0, api.ErrRange},
		{"Slide below 0", withSlide(-1), 0, api.ErrRange},
		{"Slide too great", withSlide(7), 0, api.ErrRange},
		{"the base before the links", changed(func(s *api.ArmScene) { s.Base, s.Links = [2]int{9, 9}, nil }), 0, api.ErrRange},
		{"no links", withLinks(), 0, api.ErrShape},
		{"too many links", withLinks(good, good, good, good), 0, api.ErrLarge},
		{"how many before each of them", withLinks(good, good, good, linkOf(0, 0, 0)), 0, api.ErrLarge},
		{"no length", withLinks(good, linkOf(0, 0, 0)), 1, api.ErrRange},
		{"too long", withLinks(good, good, linkOf(5, 0, 0)), 2, api.ErrRange},
		{"quarters too small", withLinks(linkOf(1, -3, 0)), 0, api.ErrRange},
		{"quarters too great", withLinks(good, linkOf(1, 0, 3)), 1, api.ErrRange},
		{"the least quarters", withLinks(good, linkOf(1, math.MinInt, 0)), 1, api.ErrRange},
		{"quarters in the wrong order", withLinks(good, linkOf(1, 1, 0)), 1, api.ErrOrder},
		{"the size of quarters before their order", withLinks(linkOf(1, 3, 0)), 0, api.ErrRange},
		{"the length before the order of quarters", withLinks(linkOf(5, 1, 0)), 0, api.ErrRange},
		{"link by link", withLinks(good, linkOf(1, 1, 0), linkOf(0, 0, 0)), 1, api.ErrOrder},
		{"links before boxes", changed(func(s *api.ArmScene) { s.Links[1].Length, s.Boxes = 0, make([]api.ArmBox, 7) }), 1, api.ErrRange},
		{"too many boxes", withBoxes(make([]api.ArmBox, 7)...), 0, api.ErrLarge},
		{"too many boxes, one of them bad", withBoxes(append(make([]api.ArmBox, 6), boxOf(1, 0, 0, 0))...), 0, api.ErrLarge},
		{"X of a box too small", withBoxes(box, boxOf(-21, 0, 0, 0)), 1, api.ErrRange},
		{"X of a box too great", withBoxes(boxOf(0, 21, 0, 0)), 0, api.ErrRange},
		{"Y of a box too small", withBoxes(box, box, boxOf(0, 0, -21, 0)), 2, api.ErrRange},
		{"Y of a box too great", withBoxes(box, box, box, box, box, boxOf(0, 0, 0, 21)), 5, api.ErrRange},
		{"X of a box in the wrong order", withBoxes(box, boxOf(1, 0, 0, 0)), 1, api.ErrOrder},
		{"Y of a box in the wrong order", withBoxes(boxOf(0, 0, 1, 0)), 0, api.ErrOrder},
		{"the size of a box before its order", withBoxes(boxOf(1, 0, 0, 21)), 0, api.ErrRange},
		{"box by box", withBoxes(box, boxOf(0, 0, 1, 0), boxOf(0, 21, 0, 0)), 1, api.ErrOrder},
	}
}

func TestCheckScene(t *testing.T) {
	for _, c := range []struct {
		name  string
		scene api.ArmScene
	}{
		{"example", exampleScene()},
		{"without boxes", withBoxes()},
		{"the greatest field", openScene()},
		{"the base in a corner of the field", withBase(-1, -1)},
		{"the base in the other corner", withBase(4, 4)},
		{"a field of one cell", withField(0, 0, 0, 0)},
		{"no slide", withSlide(0)},
		{"the longest slide, out of the field", withSlide(6)},
		{"one link", withLinks(linkOf(1, 0, 0))},
		{"three links", withLinks(linkOf(4, -2, 2), linkOf(1, 2, 2), linkOf(1, -2, -2))},
		{"the greatest boxes, outside of the field, too", withBoxes(slices.Repeat([]api.ArmBox{boxOf(-20, 20, -20, 20)}, 6)...)},
	} {
		i, e := arm.CheckScene(c.scene)
		want(t, "CheckScene: "+c.name, i, e, 0, api.OK)
	}
	for _, c := range badScenes() {
		i, e := arm.CheckScene(c.scene)
		want(t, "CheckScene: "+c.name, i, e, c.index, c.err)
	}
	i, e := arm.CheckScene(api.ArmScene{})
	want(t, "CheckScene of nothing", i, e, 0, api.ErrShape)
}

// TestBadScenes calls all functions of a scene.
func TestBadScenes(t *testing.T) {
	for _, c := range badScenes() {
		a := exampleArguments()
		a.scene = c.scene
		for _, x := range resultsOf(a) {
			if x.name != "CheckScene" && x.takes("scene") {
				x.wantError(t, c.name, c.err)
			}
		}
	}
}

// badPose is a pose that is none of the example's scene, with its error.
type badPose struct {
	pose api.ArmPose
	err  api.Errno
}

func badPoses() []badPose {
	return []badPose{
		{poseOf(-1, 0, 0), api.ErrRange},
		{poseOf(2, 0, 0), api.ErrRange},
		{poseOf(math.MinInt, 0, 0), api.ErrRange},
		{poseOf(2, 0), api.ErrRange},
		{poseOf(0), api.ErrShape},
		{poseOf(0, 0), api.ErrShape},
		{poseOf(0, 0, 0, 0), api.ErrShape},
		{poseOf(0, 9), api.ErrShape},
		{poseOf(0, -1, 0), api.ErrRange},
		{poseOf(0, 2, 0), api.ErrRange},
		{poseOf(0, 0, -2), api.ErrRange},
		{poseOf(0, 0, 2), api.ErrRange},
		{poseOf(0, math.MaxInt, math.MinInt), api.ErrRange},
		{poseOf(0, 4, 0), api.ErrRange},
	}
}

func TestCheckPose(t *testing.T) {
	for _, p := range []api.ArmPose{poseOf(0, 0, 0), poseOf(1, 1, 1), poseOf(0, 0, -1), poseOf(1, 1, -1)} {
		want(t, fmt.Sprint("CheckPose of ", p), nil, arm.CheckPose(exampleScene(), p), nil, api.OK)
	}
	for _, c := range badPoses() {
		want(t, fmt.Sprint("CheckPose of ", c.pose), nil, arm.CheckPose(exampleScene(), c.pose), nil, c.err)
	}
	want(t, "the scene before the pose", nil, arm.CheckPose(withLinks(), poseOf(-1)), nil, api.ErrShape)
	still := withLinks(linkOf(2, 1, 1))
	for q := -4; q <= 4; q++ {
		err := api.ErrRange
		if q == 1 {
			err = api.OK
		}
		want(t, fmt.Sprint("a link that does not turn at ", q), nil, arm.CheckPose(still, poseOf(0, q)), nil, err)
	}
}

// TestBadPoses calls all functions of a pose, also of the second one.
func TestBadPoses(t *testing.T) {
	for _, c := range badPoses() {
		a, b := exampleArguments(), exampleArguments()
		a.pose, b.to = c.pose, c.pose
		second := resultsOf(b)
		for i, x := range resultsOf(a) {
			if x.takes("pose") {
				x.wantError(t, fmt.Sprint(c.pose), c.err)
			}
			if x.takes("to") {
				second[i].wantError(t, fmt.Sprint(c.pose), c.err)
			}
		}
	}
}
