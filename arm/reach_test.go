package arm_test

import (
	"fmt"
	"math"
	"math/rand/v2"
	"slices"
	"testing"

	"moonpool/api"
	"moonpool/arm"
)

// P6.4, P6.10, P6.11

func TestReachedFrom(t *testing.T) {
	for _, c := range []struct {
		name    string
		scene   api.ArmScene
		from    api.ArmPose
		reached []api.ArmReached
		err     api.Errno
	}{
		{"example 3", exampleScene(), poseOf(0, 0, 0), exampleReached(), api.OK},
		{"from the other end", exampleScene(), poseOf(1, 0, 1), []api.ArmReached{
			reachedOf(3, 0, 0, -1), reachedOf(2, 0, 0, 0), reachedOf(1, 0, 0, 1),
			reachedOf(2, 1, 0, -1), reachedOf(1, 1, 0, 0), reachedOf(0, 1, 0, 1),
		}, api.OK},
		{"the other quarters", exampleScene(), poseOf(0, 1, -1), []api.ArmReached{
			reachedOf(0, 0, 1, -1), reachedOf(1, 0, 1, 0), reachedOf(2, 0, 1, 1), reachedOf(2, 1, 1, 0), reachedOf(3, 1, 1, 1),
		}, api.OK},
		{"nothing moves", withLinks(linkOf(1, 0, 0)), poseOf(1, 0), []api.ArmReached{reachedOf(1, 0, 0), reachedOf(0, 1, 0)}, api.OK},
		{"not free", busyScene(), poseOf(0, 0, 0), nil, api.ErrBusy},
	} {
		l, e := arm.ReachedFrom(c.scene, c.from)
		want(t, "ReachedFrom: "+c.name, l, e, c.reached, c.err)
	}
	l, e := arm.ReachedFrom(openScene(), poseOf(0, -2, -2, -2))
	want(t, "all poses are reached", len(l), e, 875, api.OK)
	want(t, "the last of all poses", l[874], e, reachedOf(18, 6, 2, 2, 2), api.OK)
	i, e := arm.CheckReached(openScene(), poseOf(0, -2, -2, -2), l)
	want(t, "CheckReached of all poses", i, e, 0, api.OK)
}

// without is a list without the item at an index.
func without(l []api.ArmReached, i int) []api.ArmReached {
	return slices.Delete(slices.Clone(l), i, i+1)
}

// withoutBeginning is a list without the poses to which no moves lead.
func withoutBeginning(l []api.ArmReached) []api.ArmReached {
	return slices.DeleteFunc(slices.Clone(l), func(x api.ArmReached) bool { return x.Moves == 0 })
}

// with is a list in which the item at an index is replaced.
func with(l []api.ArmReached, i int, x api.ArmReached) []api.ArmReached {
	return slices.Replace(slices.Clone(l), i, i+1, x)
}

// counted is a list in which the numbers of moves are replaced.
func counted(l []api.ArmReached, counts ...int) []api.ArmReached {
	l = slices.Clone(l)
	for i, n := range counts {
		l[i].Moves = n
	}
	return l
}

// together is the reached poses of the example, and those with the other quarters, with so many moves to each of the latter.
func together(counts ...int) []api.ArmReached {
	others := counted([]api.ArmReached{reachedOf(0, 0, 1, -1), reachedOf(0, 0, 1, 0), reachedOf(0, 0, 1, 1), reachedOf(0, 1, 1, 0), reachedOf(0, 1, 1, 1)}, counts...)
	l := exampleReached()
	return slices.Concat(l[:3], others[:3], l[3:], others[3:])
}

func TestCheckReached(t *testing.T) {
	good := exampleReached()
	for _, c := range []struct {
		name    string
		reached []api.ArmReached
		index   int
		err     api.Errno
	}{
		{"example 3", good, 0, api.OK},
		{"a pose that is none of the scene", with(good, 2, reachedOf(1, 0, 0, 2)), 2, api.ErrRange},
		{"a slide that is none of the scene", with(good, 5, reachedOf(2, 2, 0, 1)), 5, api.ErrRange},
		{"a pose of too few quarters", with(good, 1, reachedOf(0, 0, 0)), 1, api.ErrShape},
		{"a pose of too many quarters", with(good, 0, reachedOf(1, 0, 0, -1, 0)), 0, api.ErrShape},
		{"two in the wrong order", []api.ArmReached{good[1], good[0], good[2], good[3], good[4], good[5]}, 1, api.ErrOrder},
		{"slides in the wrong order", slices.Concat(good[3:], good[:3]), 3, api.ErrOrder},
		{"one twice", slices.Concat(good[:3], good[2:]), 3, api.ErrOrder},
		{"one that is not free", append(slices.Clone(good), reachedOf(3, 1, 1, -1)), 6, api.ErrBusy},
		{"the order before what is not free", []api.ArmReached{good[0], good[1], good[5], reachedOf(3, 1, 1, -1), reachedOf(3, 1, 1, -1)}, 3, api.ErrBusy},
		{"not free before a negative number", []api.ArmReached{reachedOf(-1, 1, 1, -1)}, 0, api.ErrBusy},
		{"the pose before the order", []api.ArmReached{good[1], reachedOf(1, 0, 0, -2)}, 1, api.ErrRange},
		{"the order before the number", []api.ArmReached{good[1], reachedOf(-1, 0, 0, -1)}, 1, api.ErrOrder},
		{"a negative number", counted(good, 1, 0, -1), 2, api.ErrRange},
		{"the least int", counted(good, math.MinInt), 0, api.ErrRange},
		{"a number from the beginning to itself", counted(good, 1, 1), 1, api.ErrRange},
		{"a negative number to itself", counted(good, 1, -1), 1, api.ErrRange},
		{"no moves to another one", counted(good, 1, 0, 1, 2, 0), 4, api.ErrRange},
		{"one by one, the order first", []api.ArmReached{good[1], good[0], reachedOf(-1, 0, 0, 1)}, 1, api.ErrOrder},
		{"one by one, the number first", []api.ArmReached{reachedOf(-1, 0, 0, -1), good[2], good[1]}, 0, api.ErrRange},
		{"none", nil, 0, api.ErrMissing},
		{"without the beginning", withoutBeginning(good), 0, api.ErrMissing},
		{"a bad number before the beginning that is missing", counted(without(good, 1), 1, 1, 2, 1, 0), 4, api.ErrRange},
		{"the beginning alone", good[1:2], 0, api.ErrOpen},
		{"without the last one", without(good, 5), 2, api.ErrOpen},
		{"without the first one", without(good, 0), 0, api.ErrOpen},
		{"without the slide", without(good, 4), 1, api.ErrOpen},
		{"one more than 1 more", counted(good, 1, 0, 1, 2, 1, 3), 2, api.ErrProof},
		{"the slide has more", counted(good, 1, 0, 1, 2, 2, 2), 1, api.ErrProof},
		{"the first one has more", counted(good, 2), 0, api.ErrProof},
		{"the greatest number", counted(good, 1, 0, 1, 2, math.MaxInt, 2), 1, api.ErrProof},
		{"all others have the greatest number", counted(good, math.MaxInt, 0, math.MaxInt, math.MaxInt, math.MaxInt, math.MaxInt), 0, api.ErrProof},
		{"one less", counted(good, 1, 0, 1, 1, 1, 2), 3, api.ErrProof},
		{"the last one less", counted(good, 1, 0, 1, 2, 1, 1), 5, api.ErrProof},
		{"a move that is open before one to a pose with more", without(counted(good, 1, 0, 9), 4), 1, api.ErrOpen},
		{"a move to a pose with more before one that is open", without(counted(good, 1, 0, 1, 2, 9), 2), 1, api.ErrProof},
		{"moves before what is missing before them", without(counted(good, 3, 0, 1, 2, 1, 2), 3), 0, api.ErrOpen},
		{"nothing just before it, then one that is open", []api.ArmReached{reachedOf(3, 0, 0, -1), good[1], reachedOf(3, 1, 0, -1), good[4]}, 0, api.ErrProof},
		{"poses that are not reached, in circles", together(5, 5, 5, 5, 5), 3, api.ErrProof},
		{"poses that are not reached, as if they were", together(1, 2, 3, 3, 4), 3, api.ErrProof},
		{"poses that are not reached, from another one", together(4, 3, 2, 4, 3), 5, api.ErrProof},
		{"poses that are not reached, with the greatest numbers", together(math.MaxInt, math.MaxInt-1, math.MaxInt, math.MaxInt, math.MaxInt), 4, api.ErrProof},
	} {
		i, e := arm.CheckReached(exampleScene(), poseOf(0, 0, 0), c.reached)
		want(t, "CheckReached: "+c.name, i, e, c.index, c.err)
	}
	i, e := arm.CheckReached(busyScene(), poseOf(0, 0, 0), []api.ArmReached{{}})
	want(t, "CheckReached from a pose that is not free", i, e, 0, api.ErrBusy)
}

func TestReachedOfAllPoses(t *testing.T) {
	r := newRandom()
	var done [3]int
	for range 400 {
		s := randomScene(r)
		from, ok := randomFree(r, s)
		if !ok {
			continue
		}
		counts := countsFrom(s, from)
		var wanted []api.ArmReached
		for _, p := range allPoses(s) {
			if n, ok := counts[keyOf(p)]; ok {
				wanted = append(wanted, api.ArmReached{Pose: p, Moves: n})
			}
		}
		l, e := arm.ReachedFrom(s, from)
		want(t, fmt.Sprint("ReachedFrom ", s, from), l, e, wanted, api.OK)
		i, e := arm.CheckReached(s, from, l)
		want(t, fmt.Sprint("CheckReached ", s, from, l), i, e, 0, api.OK)
		for range 20 {
			checkOther(t, r, s, from, l)
		}
		done[min(len(l)/3, 2)]++
	}
	if min(done[0], done[1], done[2]) < 30 {
		t.Errorf("so many scenes have few, some, more reached poses: %v: too few of one kind are tested", done)
	}
}

// checkOther checks that a list that is not that of the reached poses is not accepted.
func checkOther(t *testing.T, r *rand.Rand, s api.ArmScene, from api.ArmPose, l []api.ArmReached) {
	t.Helper()
	other := slices.Clone(l)
	for range between(r, 1, 3) {
		if len(other) == 0 {
			break
		}
		i := r.IntN(len(other))
		switch r.IntN(4) {
		case 0:
			other = slices.Delete(other, i, i+1)
		case 1:
			other[i].Moves += between(r, -1, 1)
		case 2:
			other[i].Moves = r.IntN(12)
		case 3:
			other = withPose(other, api.ArmReached{Pose: randomPose(r, s), Moves: r.IntN(8)})
		}
	}
	if fmt.Sprint(other) == fmt.Sprint(l) {
		return
	}
	if _, e := arm.CheckReached(s, from, other); e == api.OK {
		t.Fatalf("%v from %v: %v is accepted, the reached poses are %v", s, from, other, l)
	}
}

// withPose is a list with one more item, or with it instead of one of the same pose, in the order of poses.
func withPose(l []api.ArmReached, x api.ArmReached) []api.ArmReached {
	compare := func(a, b api.ArmReached) int {
		return slices.Compare(append([]int{a.Pose.Slide}, a.Pose.Quarters...), append([]int{b.Pose.Slide}, b.Pose.Quarters...))
	}
	i, found := slices.BinarySearchFunc(l, x, compare)
	if found {
		return with(l, i, x)
	}
	return slices.Insert(l, i, x)
}

// TestMoreBoxes puts one more box into scenes.
func TestMoreBoxes(t *testing.T) {
	r := newRandom()
	compared, fewer, longer := 0, 0, 0
	for range 1500 {
		s := randomScene(r)
		from, ok := randomFree(r, s)
		if !ok {
			continue
		}
		l, _ := arm.ReachedFrom(s, from)
		counts := map[string]int{}
		for _, x := range l {
			counts[keyOf(x.Pose)] = x.Moves
		}
		s.Boxes = append(s.Boxes, randomBox(r))
		less, e := arm.ReachedFrom(s, from)
		if e == api.ErrBusy {
			continue
		}
		compared++
		if len(less) < len(l) {
			fewer++
		}
		isLonger := false
		for _, x := range less {
			n, ok := counts[keyOf(x.Pose)]
			if !ok || x.Moves < n {
				t.Fatalf("%v from %v: %v is reached with one more box, not without it: %v", s, from, x, l)
			}
			isLonger = isLonger || x.Moves > n
		}
		if isLonger {
			longer++
		}
	}
	if compared < 300 || fewer < 50 || longer < 5 {
		t.Errorf("%d scenes were compared, %d have fewer poses then, %d longer paths: too few", compared, fewer, longer)
	}
}
