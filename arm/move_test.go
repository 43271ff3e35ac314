package arm_test

import (
	"fmt"
	"math"
	"testing"

	"moonpool/api"
	"moonpool/arm"
)

// P6.3

func TestMovedAndSwept(t *testing.T) {
	long := withLinks(linkOf(2, -2, 2), linkOf(1, -2, 2), linkOf(3, -2, 2))
	for _, c := range []struct {
		name  string
		scene api.ArmScene
		pose  api.ArmPose
		move  api.ArmMove
		after api.ArmPose
		sweep api.ArmBox
	}{
		{"example 2", exampleScene(), poseOf(0, 0, 0), moveOf(1, 1), poseOf(0, 0, 1), boxOf(2, 3, 0, 1)},
		{"example 2, the joint 0", exampleScene(), poseOf(0, 0, 0), moveOf(0, 1), poseOf(0, 1, 0), boxOf(0, 3, 0, 3)},
		{"example 3", exampleScene(), poseOf(0, 0, 1), moveOf(0, 1), poseOf(0, 1, 1), boxOf(-1, 2, 0, 2)},
		{"example 3, too", exampleScene(), poseOf(0, 0, -1), moveOf(0, 1), poseOf(0, 1, -1), boxOf(0, 2, -1, 2)},
		{"example 4", exampleScene(), poseOf(0, 0, 1), moveOf(api.ArmSlide, 1), poseOf(1, 0, 1), boxOf(0, 3, 0, 1)},
		{"the slide back", exampleScene(), poseOf(1, 0, 1), moveOf(api.ArmSlide, -1), poseOf(0, 0, 1), boxOf(0, 3, 0, 1)},
		{"the joint 0 back", exampleScene(), poseOf(0, 1, -1), moveOf(0, -1), poseOf(0, 0, -1), boxOf(0, 2, -1, 2)},
		{"the links before the joint are not swept", long, poseOf(1, 1, 1, 0), moveOf(2, 1), poseOf(1, 1, 1, 1), boxOf(-3, 0, -1, 2)},
		{"the links after the joint are swept, too", long, poseOf(0, 0, 0, 1), moveOf(1, -1), poseOf(0, 0, -1, 1), boxOf(2, 5, -1, 3)},
		{"a pose that is not free", busyScene(), poseOf(0, 0, 0), moveOf(1, -1), poseOf(0, 0, -1), boxOf(2, 3, -1, 0)},
		{"to a pose that is not free", exampleScene(), poseOf(0, 1, -1), moveOf(api.ArmSlide, 1), poseOf(1, 1, -1), boxOf(0, 2, 0, 2)},
	} {
		p, e := arm.Moved(c.scene, c.pose, c.move)
		want(t, "Moved: "+c.name, p, e, c.after, api.OK)
		b, e := arm.SweepOf(c.scene, c.pose, c.move)
		want(t, "SweepOf: "+c.name, b, e, c.sweep, api.OK)
	}
}

// badMoves are those that have an error from the pose 0 0 0 of the example's scene.
func badMoves() map[api.ArmMove]api.Errno {
	return map[api.ArmMove]api.Errno{
		moveOf(-2, 1):            api.ErrMissing,
		moveOf(2, 1):             api.ErrMissing,
		moveOf(math.MinInt, 1):   api.ErrMissing,
		moveOf(math.MaxInt, 1):   api.ErrMissing,
		moveOf(2, 2):             api.ErrMissing,
		moveOf(0, 0):             api.ErrRange,
		moveOf(0, 2):             api.ErrRange,
		moveOf(1, -2):            api.ErrRange,
		moveOf(-1, math.MinInt):  api.ErrRange,
		moveOf(0, math.MaxInt):   api.ErrRange,
		moveOf(0, -1):            api.ErrBreak,
		moveOf(api.ArmSlide, -1): api.ErrBreak,
	}
}

func TestBadMoves(t *testing.T) {
	for m, err := range badMoves() {
		p, e := arm.Moved(exampleScene(), poseOf(0, 0, 0), m)
		want(t, fmt.Sprint("Moved by ", m), p, e, api.ArmPose{}, err)
		b, e := arm.SweepOf(exampleScene(), poseOf(0, 0, 0), m)
		want(t, fmt.Sprint("SweepOf ", m), b, e, api.ArmBox{}, err)
	}
	still := withLinks(linkOf(2, 0, 0))
	still.Slide = 0
	for _, m := range allMoves(still) {
		p, e := arm.Moved(still, poseOf(0, 0), m)
		want(t, fmt.Sprint("Moved where nothing moves by ", m), p, e, api.ArmPose{}, api.ErrBreak)
	}
	l, e := arm.MovesFrom(still, poseOf(0, 0))
	want(t, "MovesFrom where nothing moves", l, e, []api.ArmMove{}, api.OK)
}

func TestMovesFrom(t *testing.T) {
	slide, back := moveOf(api.ArmSlide, 1), moveOf(api.ArmSlide, -1)
	for _, c := range []struct {
		name  string
		scene api.ArmScene
		pose  api.ArmPose
		moves []api.ArmMove
		err   api.Errno
	}{
		{"example", exampleScene(), poseOf(0, 0, 0), []api.ArmMove{slide, moveOf(1, -1), moveOf(1, 1)}, api.OK},
		{"example 3", exampleScene(), poseOf(0, 0, 1), []api.ArmMove{slide, moveOf(1, -1)}, api.OK},
		{"in the other pose", exampleScene(), poseOf(0, 1, 0), []api.ArmMove{slide, moveOf(1, -1), moveOf(1, 1)}, api.OK},
		{"without the box", withBoxes(), poseOf(0, 0, 0), []api.ArmMove{slide, moveOf(0, 1), moveOf(1, -1), moveOf(1, 1)}, api.OK},
		{"a box beside the arc alone", withBoxes(boxOf(3, 3, 3, 3)), poseOf(0, 0, 0), []api.ArmMove{slide, moveOf(1, -1), moveOf(1, 1)}, api.OK},
		{"in the middle", openScene(), poseOf(3, 0, 0, 0), []api.ArmMove{back, slide, moveOf(0, -1), moveOf(0, 1), moveOf(1, -1), moveOf(1, 1), moveOf(2, -1), moveOf(2, 1)}, api.OK},
		{"at all ends", openScene(), poseOf(6, -2, 2, -2), []api.ArmMove{back, moveOf(0, 1), moveOf(1, -1), moveOf(2, 1)}, api.OK},
		{"at the other ends", openScene(), poseOf(0, 2, -2, 2), []api.ArmMove{slide, moveOf(0, -1), moveOf(1, 1), moveOf(2, -1)}, api.OK},
		{"the pose is not free", exampleScene(), poseOf(1, 1, -1), nil, api.ErrBusy},
		{"the base is not free", busyScene(), poseOf(0, 0, 0), nil, api.ErrBusy},
		{"out of the field", withField(-1, 2, -1, 4), poseOf(0, 0, 0), nil, api.ErrBusy},
	} {
		l, e := arm.MovesFrom(c.scene, c.pose)
		want(t, "MovesFrom: "+c.name, l, e, c.moves, c.err)
	}
}

func TestMovesCellByCell(t *testing.T) {
	r := newRandom()
	var done [3]int
	for range 1000 {
		s := randomScene(r)
		p := randomPose(r, s)
		var moves []api.ArmMove
		for _, m := range allMoves(s) {
			q, ok := after(s, p, m)
			box := sweepOf(s, p, q, m)
			err := api.OK
			if !ok {
				q, box, err = api.ArmPose{}, api.ArmBox{}, api.ErrBreak
			}
			got, e := arm.Moved(s, p, m)
			want(t, fmt.Sprint("Moved ", s, p, m), got, e, q, err)
			b, e := arm.SweepOf(s, p, m)
			want(t, fmt.Sprint("SweepOf ", s, p, m), b, e, box, err)
			if _, ok := made(s, p, m); ok {
				moves = append(moves, m)
			}
		}
		err := api.OK
		if !isFree(s, p) {
			err = api.ErrBusy
		}
		l, e := arm.MovesFrom(s, p)
		want(t, fmt.Sprint("MovesFrom ", s, p), l, e, moves, err)
		done[min(len(moves), 2)]++
	}
	if min(done[0], done[1], done[2]) < 50 {
		t.Errorf("so many poses have no, one, more moves: %v: too few of one kind are tested", done)
	}
}
