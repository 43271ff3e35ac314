package sonar_test

import (
	"math"
	"slices"
	"testing"

	"moonpool/api"
	"moonpool/sonar"
)

// P4.4, P4.11, P4.12

// badScene is a scene that CheckScene refuses, with the index and the error.
type badScene struct {
	name  string
	scene api.SonarScene
	index int
	err   api.Errno
}

func allBadScenes() []badScene {
	sized := func(wide, high int, rays ...api.SonarRay) api.SonarScene {
		return api.SonarScene{Wide: wide, High: high, Rays: rays}
	}
	bad := rayOf(9, 9, 9, 9, true)
	many := slices.Repeat([]api.SonarRay{rayOf(0, 0, 1, 1, true)}, 11)
	scenes := []badScene{
		{"nothing", sized(0, 0), 0, api.ErrRange},
		{"Wide 0", sized(0, 1), 0, api.ErrRange},
		{"Wide 13", sized(13, 1), 0, api.ErrRange},
		{"High 0", sized(1, 0), 0, api.ErrRange},
		{"High 13", sized(1, 13), 0, api.ErrRange},
		{"the least int as Wide", sized(math.MinInt, 1), 0, api.ErrRange},
		{"the greatest int as High", sized(1, math.MaxInt), 0, api.ErrRange},
		{"size before rays", sized(4, 13, many...), 0, api.ErrRange},
		{"size before a ray", sized(4, 0, many[0], bad), 0, api.ErrRange},
		{"11 rays", sized(4, 2, many...), 0, api.ErrLarge},
		{"11 rays before their errors", sized(4, 2, slices.Repeat([]api.SonarRay{bad}, 11)...), 0, api.ErrLarge},
		{"the first of two", sized(4, 2, many[0], many[0], bad, bad), 2, api.ErrMissing},
	}
	for i, r := range badRays() {
		rays := slices.Repeat(many[:1], i)
		scenes = append(scenes, badScene{"a ray that leaves the grid", sized(4, 2, append(rays, r)...), i, api.ErrMissing})
	}
	return scenes
}

func TestCheckScene(t *testing.T) {
	for _, s := range []api.SonarScene{
		exampleScene(),
		{Wide: 1, High: 1},
		{Wide: 12, High: 12, Rays: slices.Repeat([]api.SonarRay{rayOf(11, 0, 0, 11, true)}, 10)},
		{Wide: 12, High: 1, Rays: []api.SonarRay{rayOf(11, 0, 11, 0, false)}},
	} {
		i, e := sonar.CheckScene(s)
		want(t, "CheckScene", i, e, 0, api.OK)
	}
	for _, c := range allBadScenes() {
		i, e := sonar.CheckScene(c.scene)
		want(t, "CheckScene: "+c.name, i, e, c.index, c.err)
		l, e := sonar.StatesOf(c.scene)
		want(t, "StatesOf: "+c.name, l, e, []int{}, c.err)
		l, e = sonar.ContradictedIn(c.scene)
		want(t, "ContradictedIn: "+c.name, l, e, []int{}, c.err)
		l, e = sonar.OddRays(c.scene)
		want(t, "OddRays: "+c.name, l, e, []int{}, c.err)
		m, e := sonar.Merged(c.scene, api.SonarScene{})
		want(t, "Merged with the first one: "+c.name, m, e, api.SonarScene{}, c.err)
		m, e = sonar.Merged(exampleScene(), c.scene)
		want(t, "Merged with the second one: "+c.name, m, e, api.SonarScene{}, c.err)
	}
}

func TestScenes(t *testing.T) {
	line := func(rays ...api.SonarRay) api.SonarScene { return api.SonarScene{Wide: 4, High: 1, Rays: rays} }
	through, hit := rayOf(0, 0, 3, 0, false), rayOf(0, 0, 3, 0, true)
	const unknown, free, taken, both = api.SonarUnknown, api.SonarFree, api.SonarTaken, api.SonarBoth
	for _, c := range []struct {
		name                      string
		scene                     api.SonarScene
		states, contradicted, odd []int
	}{
		{"example", exampleScene(), []int{1, 1, 0, 0, 1, 1, 1, 3}, []int{7}, []int{0}},
		{"no rays", line(), []int{unknown, unknown, unknown, unknown}, nil, nil},
		{"through", line(through), []int{free, free, free, free}, nil, nil},
		{"a hit", line(hit), []int{free, free, free, taken}, nil, nil},
		{"two hits", line(hit, hit), []int{free, free, free, taken}, nil, nil},
		{"a hit from the other side", line(rayOf(3, 0, 1, 0, true)), []int{unknown, taken, free, free}, nil, nil},
		{"a hit of its own cell", line(rayOf(1, 0, 1, 0, true)), []int{unknown, taken, unknown, unknown}, nil, nil},
		{"its own cell", line(rayOf(1, 0, 1, 0, false)), []int{unknown, free, unknown, unknown}, nil, nil},
		{"two that contradict each other: the first one is odd", line(hit, through), []int{free, free, free, both}, []int{3}, []int{0}},
		{"the other way round", line(through, hit), []int{free, free, free, both}, []int{3}, []int{0}},
		{"one against two", line(hit, through, hit), []int{free, free, free, both}, []int{3}, []int{1}},
		{"a hit in the way of a hit", line(rayOf(0, 0, 2, 0, true), hit), []int{free, free, both, taken}, []int{2}, []int{0}},
		{"hits in each other's way", line(rayOf(0, 0, 2, 0, true), rayOf(3, 0, 1, 0, true)), []int{free, both, both, free}, []int{1, 2}, []int{0}},
		{"two against three cells", line(rayOf(1, 0, 1, 0, true), rayOf(2, 0, 2, 0, true), through, hit), []int{free, both, both, both}, []int{1, 2, 3}, []int{2, 3}},
		{"two cells, two rays", line(rayOf(0, 0, 0, 0, true), rayOf(3, 0, 3, 0, false), hit, rayOf(0, 0, 1, 0, false)), []int{both, free, free, both}, []int{0, 3}, []int{0, 1}},
	} {
		l, e := sonar.StatesOf(c.scene)
		want(t, "StatesOf: "+c.name, l, e, c.states, api.OK)
		l, e = sonar.ContradictedIn(c.scene)
		want(t, "ContradictedIn: "+c.name, l, e, c.contradicted, api.OK)
		l, e = sonar.OddRays(c.scene)
		want(t, "OddRays: "+c.name, l, e, c.odd, api.OK)
	}
}

func TestMerged(t *testing.T) {
	a, b := exampleScene(), api.SonarScene{Wide: 4, High: 2, Rays: []api.SonarRay{rayOf(3, 0, 2, 0, true)}}
	sized := func(wide, high, rays int) api.SonarScene {
		return api.SonarScene{Wide: wide, High: high, Rays: make([]api.SonarRay, rays)}
	}
	for _, c := range []struct {
		name         string
		a, b, merged api.SonarScene
		err          api.Errno
	}{
		{"the rays of the first one come first", a, b, api.SonarScene{Wide: 4, High: 2, Rays: append(a.Rays, b.Rays...)}, api.OK},
		{"the other way round", b, a, api.SonarScene{Wide: 4, High: 2, Rays: append(b.Rays, a.Rays...)}, api.OK},
		{"with no rays", a, sized(4, 2, 0), a, api.OK},
		{"no rays with some", sized(4, 2, 0), a, a, api.OK},
		{"no rays at all", sized(4, 2, 0), sized(4, 2, 0), sized(4, 2, 0), api.OK},
		{"ten rays", sized(4, 2, 6), sized(4, 2, 4), sized(4, 2, 10), api.OK},
		{"eleven rays", sized(4, 2, 6), sized(4, 2, 5), api.SonarScene{}, api.ErrLarge},
		{"other columns", a, sized(3, 2, 0), api.SonarScene{}, api.ErrClash},
		{"other rows", a, sized(4, 3, 0), api.SonarScene{}, api.ErrClash},
		{"as many cells", a, sized(2, 4, 0), api.SonarScene{}, api.ErrClash},
		{"clash before large", sized(4, 2, 6), sized(4, 3, 5), api.SonarScene{}, api.ErrClash},
		{"the first one before the second one", sized(4, 2, 11), sized(0, 2, 0), api.SonarScene{}, api.ErrLarge},
		{"the second one before clash", a, sized(3, 13, 0), api.SonarScene{}, api.ErrRange},
	} {
		m, e := sonar.Merged(c.a, c.b)
		want(t, "Merged: "+c.name, m, e, c.merged, c.err)
	}
}

// someScenes calls something with random scenes, many of them small, so that their rays meet.
func someScenes(use func(s api.SonarScene)) {
	r := newRandom()
	for range 400 {
		side := []int{3, 5, 12}[r.IntN(3)]
		use(randomScene(r, between(r, 1, side), between(r, 1, side), r.IntN(11)))
	}
}

// says is whether a ray sees through a cell, and whether it hits it.
func says(s api.SonarScene, r api.SonarRay, cell int) (through, hit bool) {
	hit = r.Hit && r.To == api.SonarCell{X: cell % s.Wide, Y: cell / s.Wide}
	return !hit && crosses(r, s.Wide, cell), hit
}

func TestStatesAreThoseOfRays(t *testing.T) {
	someScenes(func(s api.SonarScene) {
		var states, contradicted []int
		for cell := range s.Wide * s.High {
			isThrough, isHit := false, false
			for _, r := range s.Rays {
				through, hit := says(s, r, cell)
				isThrough, isHit = isThrough || through, isHit || hit
			}
			state := api.SonarUnknown
			if isThrough && isHit {
				state = api.SonarBoth
				contradicted = append(contradicted, cell)
			} else if isThrough {
				state = api.SonarFree
			} else if isHit {
				state = api.SonarTaken
			}
			states = append(states, state)
		}
		l, e := sonar.StatesOf(s)
		want(t, "StatesOf", l, e, states, api.OK)
		l, e = sonar.ContradictedIn(s)
		want(t, "ContradictedIn", l, e, contradicted, api.OK)
	})
}

// without is a scene without some rays.
func without(s api.SonarScene, rays []int) api.SonarScene {
	rest := api.SonarScene{Wide: s.Wide, High: s.High}
	for i, r := range s.Rays {
		if !slices.Contains(rays, i) {
			rest.Rays = append(rest.Rays, r)
		}
	}
	return rest
}

// firstOdd is the first of all sets of rays without which no cell is contradicted, the smallest ones first.
func firstOdd(s api.SonarScene) []int {
	for _, rays := range allSets(len(s.Rays)) {
		if cells, _ := sonar.ContradictedIn(without(s, rays)); len(cells) == 0 {
			return rays
		}
	}
	return nil
}

func TestOddRaysAreTheFewest(t *testing.T) {
	sizes := map[int]bool{}
	someScenes(func(s api.SonarScene) {
		odd := firstOdd(s)
		l, e := sonar.OddRays(s)
		want(t, "OddRays", l, e, odd, api.OK)
		sizes[len(odd)] = true
	})
	for size := range 5 {
		if !sizes[size] {
			t.Errorf("no scene was tested that has %d odd rays", size)
		}
	}
}

func TestMergedScenesKnowMore(t *testing.T) {
	r := newRandom()
	for range 300 {
		wide, high := between(r, 1, 6), between(r, 1, 6)
		a, b := randomScene(r, wide, high, r.IntN(6)), randomScene(r, wide, high, r.IntN(6))
		first, _ := sonar.StatesOf(a)
		second, _ := sonar.StatesOf(b)
		m, e := sonar.Merged(a, b)
		want(t, "rays of Merged", len(m.Rays), e, len(a.Rays)+len(b.Rays), api.OK)
		states, e := sonar.StatesOf(m)
		for cell, state := range states {
			isKnown := first[cell] != api.SonarUnknown || second[cell] != api.SonarUnknown
			want(t, "a cell that one of both knows", state != api.SonarUnknown, e, isKnown, api.OK)
		}
	}
}
