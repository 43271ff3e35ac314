package sonar_test

import (
	"math/big"
	"math/rand/v2"
	"reflect"
	"slices"
	"testing"

	"moonpool/api"
	"moonpool/sonar"
)

// want compares a result and an error. A nil slice and an empty one are the same result.
func want(t *testing.T, what string, got any, e api.Errno, wanted any, err api.Errno) {
	t.Helper()
	if !reflect.DeepEqual(filled(got), filled(wanted)) || e != err {
		t.Errorf("%s: %v, error %d, want %v, error %d", what, got, e, wanted, err)
	}
}

// filled makes nil slices empty ones.
func filled(x any) any {
	switch l := x.(type) {
	case []int:
		return append([]int{}, l...)
	case []api.SonarDevice:
		return append([]api.SonarDevice{}, l...)
	case []api.SonarCell:
		return append([]api.SonarCell{}, l...)
	case api.SonarTurns:
		return api.SonarTurns{Cycle: l.Cycle, Starts: append([]int{}, l.Starts...)}
	case api.SonarScene:
		return api.SonarScene{Wide: l.Wide, High: l.High, Rays: append([]api.SonarRay{}, l.Rays...)}
	}
	return x
}

func newRandom() *rand.Rand { return rand.New(rand.NewPCG(1, 2)) }

// between is a random number from low to high.
func between(r *rand.Rand, low, high int) int { return low + r.IntN(high-low+1) }

func ratio(num, den int) *big.Rat { return big.NewRat(int64(num), int64(den)) }

// allSets are all sets of the numbers below count, the smallest ones first, and those of one size in lexicographic order.
func allSets(count int) [][]int {
	all := [][]int{{}}
	for done := 0; done < len(all); done++ {
		least := 0
		if n := len(all[done]); n > 0 {
			least = all[done][n-1] + 1
		}
		for n := least; n < count; n++ {
			all = append(all, append(slices.Clone(all[done]), n))
		}
	}
	return all
}

func TestAllSets(t *testing.T) {
	want(t, "sets", allSets(3), api.OK, [][]int{{}, {0}, {1}, {2}, {0, 1}, {0, 2}, {1, 2}, {0, 1, 2}}, api.OK)
}

// exampleDevices are the devices d of the chapter's examples.
func exampleDevices() []api.SonarDevice {
	return []api.SonarDevice{{Band: 1, Send: 2, Listen: 3}, {Band: 2, Send: 1, Listen: 3}, {Band: 4, Send: 2, Listen: 2}}
}

// randomDevices are valid ones, some in few bands, some with small windows.
func randomDevices(r *rand.Rand, count, most int) []api.SonarDevice {
	bands := between(r, 0, 8)
	l := make([]api.SonarDevice, count)
	for i := range l {
		l[i] = api.SonarDevice{Band: between(r, 0, bands), Send: between(r, 1, most), Listen: between(r, 0, most)}
	}
	return l
}

// exampleTemplate and exampleSamples are those of the chapter's examples.
func exampleTemplate() []api.Gauss { return []api.Gauss{{Re: 1}, {Re: -1}} }

func exampleSamples() []api.Gauss { return []api.Gauss{{Re: 1}, {Re: 3}, {Re: -3}, {}} }

// exampleLayers are the layers w of the chapter's examples.
func exampleLayers() []api.SonarLayer {
	return []api.SonarLayer{{Thick: 10, Speed: api.Range{Lo: 4, Hi: 5}}, {Thick: 20, Speed: api.Range{Lo: 5, Hi: 6}}}
}

func rayOf(fromX, fromY, toX, toY int, hit bool) api.SonarRay {
	return api.SonarRay{From: api.SonarCell{X: fromX, Y: fromY}, To: api.SonarCell{X: toX, Y: toY}, Hit: hit}
}

// exampleScene is the scene s of the chapter's examples.
func exampleScene() api.SonarScene {
	return api.SonarScene{Wide: 4, High: 2, Rays: []api.SonarRay{rayOf(0, 0, 3, 1, true), rayOf(0, 1, 3, 1, false)}}
}

// exampleSearch is the search of the chapter's examples.
func exampleSearch() api.SonarSearch {
	return api.SonarSearch{Wide: 4, High: 2, Wanted: []int{3, 6}, Views: []api.SonarView{
		{Ray: rayOf(0, 0, 3, 0, false), Cost: 5},
		{Ray: rayOf(0, 0, 3, 1, true), Cost: 4},
		{Ray: rayOf(0, 1, 3, 1, false), Cost: 3},
	}}
}

// randomRay is a ray in a grid.
func randomRay(r *rand.Rand, wide, high int) api.SonarRay {
	return rayOf(r.IntN(wide), r.IntN(high), r.IntN(wide), r.IntN(high), r.IntN(2) == 0)
}

func randomScene(r *rand.Rand, wide, high, rays int) api.SonarScene {
	s := api.SonarScene{Wide: wide, High: high}
	for range rays {
		s.Rays = append(s.Rays, randomRay(r, wide, high))
	}
	return s
}

// randomSearch wants some cells, often those that its views cross.
func randomSearch(r *rand.Rand) api.SonarSearch {
	x := api.SonarSearch{Wide: between(r, 1, 6), High: between(r, 1, 6)}
	for range r.IntN(8) {
		x.Views = append(x.Views, api.SonarView{Ray: randomRay(r, x.Wide, x.High), Cost: r.IntN(5)})
	}
	chance := between(r, 1, 4)
	for cell := range x.Wide * x.High {
		isCrossed := slices.ContainsFunc(x.Views, func(v api.SonarView) bool { return crosses(v.Ray, x.Wide, cell) })
		if r.IntN(4) < chance && isCrossed || r.IntN(200) == 0 {
			x.Wanted = append(x.Wanted, cell)
		}
	}
	return x
}

// inside finds the cell that has a point in its inside. Coordinates are parts of which one is the side of a cell; the middle of the cell 0, 0 is 0, 0.
func inside(x, y, one int) (api.SonarCell, bool) {
	x, y = 2*x+one, 2*y+one
	c := api.SonarCell{X: x / (2 * one), Y: y / (2 * one)}
	return c, x%(2*one) != 0 && y%(2*one) != 0
}

// walked are the cells that a ray crosses, found by its points.
// Where it comes into a cell, or goes out, is a multiple of one part in twice the columns and rows that it goes; points of half this distance miss none.
func walked(r api.SonarRay) []api.SonarCell {
	columns, rows := r.To.X-r.From.X, r.To.Y-r.From.Y
	one := 4 * max(columns, -columns, 1) * max(rows, -rows, 1)
	found := map[api.SonarCell]bool{}
	for k := range one + 1 {
		if c, ok := inside(r.From.X*one+columns*k, r.From.Y*one+rows*k, one); ok {
			found[c] = true
		}
	}
	var cells []api.SonarCell
	for y := range api.MaxSonarSide {
		for x := range api.MaxSonarSide {
			if c := (api.SonarCell{X: x, Y: y}); found[c] {
				cells = append(cells, c)
			}
		}
	}
	return cells
}

// crosses is whether a ray crosses the cell with a number.
func crosses(r api.SonarRay, wide, cell int) bool {
	return slices.Contains(walked(r), api.SonarCell{X: cell % wide, Y: cell / wide})
}

// badRays are rays that leave a grid of 4 columns and 2 rows.
func badRays() []api.SonarRay {
	return []api.SonarRay{
		rayOf(-1, 0, 0, 0, false), rayOf(4, 0, 0, 0, false), rayOf(0, -1, 0, 0, true), rayOf(0, 2, 0, 0, true),
		rayOf(0, 0, -1, 0, false), rayOf(0, 0, 4, 0, false), rayOf(0, 0, 0, -1, true), rayOf(0, 0, 0, 2, true),
		rayOf(1<<62, 0, 0, 0, false), rayOf(0, 0, 0, -1<<63, false),
	}
}

func TestExamplesAreValid(t *testing.T) {
	i, e := sonar.CheckDevices(exampleDevices())
	want(t, "CheckDevices", i, e, 0, api.OK)
	i, e = sonar.CheckLayers(exampleLayers())
	want(t, "CheckLayers", i, e, 0, api.OK)
	i, e = sonar.CheckScene(exampleScene())
	want(t, "CheckScene", i, e, 0, api.OK)
	i, e = sonar.CheckSearch(exampleSearch())
	want(t, "CheckSearch", i, e, 0, api.OK)
}
