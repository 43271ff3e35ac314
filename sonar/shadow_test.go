package sonar_test

import (
	"math"
	"math/rand/v2"
	"slices"
	"testing"

	"moonpool/api"
	"moonpool/sonar"
)

// P4.3, P4.10

func TestShadowsIn(t *testing.T) {
	great := slices.Repeat([]int{10000}, 40)
	var tail []int
	for i := range 39 {
		tail = append(tail, i+1)
	}
	for _, c := range []struct {
		name    string
		heights []int
		sonar   int
		shadows []int
		err     api.Errno
	}{
		{"example", []int{0, 3, 1, 2, 6}, 4, []int{2}, api.OK},
		{"above the sonar", []int{5, 5, 9, 6}, 4, []int{1, 3}, api.OK},
		{"no heights", nil, 0, nil, api.OK},
		{"the first one", []int{-10000}, 10000, nil, api.OK},
		{"the same slope is no shadow", []int{1, 2, 3, 4}, 0, nil, api.OK},
		{"the same slope downwards", []int{-1, -2, -3}, 0, nil, api.OK},
		{"flat, at the height of the sonar", []int{2, 2, 2}, 2, nil, api.OK},
		{"flat, above the sonar", []int{3, 3, 3}, 2, []int{1, 2}, api.OK},
		{"flat, below the sonar", []int{1, 1, 1}, 2, nil, api.OK},
		{"the steepest one, not the last one, makes shadow", []int{4, 2, 5}, 0, []int{1, 2}, api.OK},
		{"the greatest heights", great, -10000, tail, api.OK},
		{"the greatest heights below", slices.Repeat([]int{-10000}, 40), 10000, nil, api.OK},
		{"41 heights", make([]int, 41), 0, nil, api.ErrLarge},
		{"41 heights before them", slices.Repeat([]int{10001}, 41), 10001, nil, api.ErrLarge},
		{"a height too great", []int{0, 10001}, 0, nil, api.ErrRange},
		{"a height too small", []int{-10001, 0}, 0, nil, api.ErrRange},
		{"the least int as a height", []int{0, math.MinInt}, 0, nil, api.ErrRange},
		{"a sonar too high", []int{0}, 10001, nil, api.ErrRange},
		{"a sonar too low", nil, -10001, nil, api.ErrRange},
		{"the least int as a sonar", nil, math.MinInt, nil, api.ErrRange},
	} {
		l, e := sonar.ShadowsIn(c.heights, c.sonar)
		want(t, "ShadowsIn: "+c.name, l, e, c.shadows, c.err)
	}
}

func randomHeights(r *rand.Rand) []int {
	most := []int{2, 10, 10000}[r.IntN(3)]
	heights := make([]int, r.IntN(41))
	for i := range heights {
		heights[i] = between(r, -most, most)
	}
	return heights
}

// isShadowed is whether some smaller distance has a greater slope.
func isShadowed(heights []int, sonar, i int) bool {
	for k := range i {
		if ratio(heights[k]-sonar, k+1).Cmp(ratio(heights[i]-sonar, i+1)) > 0 {
			return true
		}
	}
	return false
}

func TestShadowsAreExact(t *testing.T) {
	r := newRandom()
	for range 1000 {
		heights, height := randomHeights(r), upTo(r, 10000)
		var shadows []int
		for i := range heights {
			if isShadowed(heights, height, i) {
				shadows = append(shadows, i)
			}
		}
		l, e := sonar.ShadowsIn(heights, height)
		want(t, "ShadowsIn", l, e, shadows, api.OK)
	}
}

func TestShadowsStay(t *testing.T) {
	r := newRandom()
	for range 1000 {
		heights, height := randomHeights(r), upTo(r, 100)
		shadows, _ := sonar.ShadowsIn(heights, height)
		for _, i := range shadows {
			grown := slices.Clone(heights)
			k := r.IntN(i)
			grown[k] = between(r, grown[k], 10000)
			l, e := sonar.ShadowsIn(grown, height)
			want(t, "still in shadow", slices.Contains(l, i), e, true, api.OK)
		}
	}
}

func TestGreatestHeightsAreSeen(t *testing.T) {
	r := newRandom()
	for range 1000 {
		heights, height := randomHeights(r), upTo(r, 10000)
		shadows, e := sonar.ShadowsIn(heights, height)
		for i, n := range heights {
			if n == slices.Max(heights[:i+1]) && n <= height {
				want(t, "in shadow", slices.Contains(shadows, i), e, false, api.OK)
			}
		}
	}
}
