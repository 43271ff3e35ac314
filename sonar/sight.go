package sonar

import (
	"moonpool/api"
	"moonpool/rules"
)

// sight is the rays that see through a cell, and those that hit it.
type sight struct{ through, hits rules.Set }

// seen is the cells that rays cross, by their numbers: what is seen of each of them.
func (g grid) seen(rays []api.SonarRay) map[int]sight {
	seen := map[int]sight{}
	for i, r := range rays {
		for cell, state := range g.says(r) {
			x := seen[cell]
			if state == api.SonarFree {
				x.through = x.through.With(i)
			} else {
				x.hits = x.hits.With(i)
			}
			seen[cell] = x
		}
	}
	return seen
}

// without is what is seen of a cell without some rays.
func (x sight) without(rays rules.Set) sight { return sight{x.through &^ rays, x.hits &^ rays} }

// crossing is all rays that cross a cell.
func (x sight) crossing() rules.Set { return x.through | x.hits }

func (x sight) state() int {
	switch {
	case x.through != 0 && x.hits != 0:
		return api.SonarBoth
	case x.through != 0:
		return api.SonarFree
	case x.hits != 0:
		return api.SonarTaken
	}
	return api.SonarUnknown
}
