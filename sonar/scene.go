package sonar

import (
	"slices"

	"moonpool/api"
	"moonpool/rules"
)

// CheckScene is in P4.4.
func CheckScene(s api.SonarScene) (int, api.Errno) {
	g := grid{s.Wide, s.High}
	if e := g.sizeError(); e != api.OK {
		return 0, e
	}
	return rules.CheckList(s.Rays, 0, api.MaxSonarRays, g.rayError)
}

// StatesOf is in P4.4.
func StatesOf(s api.SonarScene) ([]int, api.Errno) {
	if e := sceneError(s); e != api.OK {
		return nil, e
	}
	g := grid{s.Wide, s.High}
	seen := g.seen(s.Rays)
	states := make([]int, g.cells())
	for cell := range states {
		states[cell] = seen[cell].state()
	}
	return states, api.OK
}

// ContradictedIn is in P4.4.
func ContradictedIn(s api.SonarScene) ([]int, api.Errno) {
	states, e := StatesOf(s)
	var cells []int
	for cell, state := range states {
		if state == api.SonarBoth {
			cells = append(cells, cell)
		}
	}
	return cells, e
}

// OddRays is in P4.4. Without some rays no other cell is contradicted than with them.
func OddRays(s api.SonarScene) ([]int, api.Errno) {
	cells, e := ContradictedIn(s)
	if e != api.OK {
		return nil, e
	}
	seen := grid{s.Wide, s.High}.seen(s.Rays)
	odd, _ := rules.Minimum(len(s.Rays), func(rays rules.Set) bool {
		return !slices.ContainsFunc(cells, func(cell int) bool {
			return seen[cell].without(rays).state() == api.SonarBoth
		})
	})
	return odd.Members(), api.OK
}

// Merged is in P4.4.
func Merged(a, b api.SonarScene) (api.SonarScene, api.Errno) {
	if e := rules.FirstError(sceneError(a), sceneError(b)); e != api.OK {
		return api.SonarScene{}, e
	}
	if a.Wide != b.Wide || a.High != b.High {
		return api.SonarScene{}, api.ErrClash
	}
	if len(a.Rays)+len(b.Rays) > api.MaxSonarRays {
		return api.SonarScene{}, api.ErrLarge
	}
	a.Rays = slices.Concat(a.Rays, b.Rays)
	return a, api.OK
}

func sceneError(s api.SonarScene) api.Errno {
	_, e := CheckScene(s)
	return e
}
