package rules_test

import (
	"slices"
	"testing"

	"moonpool/api"
	"moonpool/rules"
)

func TestCommonAndApart(t *testing.T) {
	for _, c := range []struct {
		name         string
		a, b, common api.Range
		apart        int
	}{
		{"overlapping", api.Range{Lo: 1, Hi: 5}, api.Range{Lo: 3, Hi: 9}, api.Range{Lo: 3, Hi: 5}, 0},
		{"one within the other one", api.Range{Lo: -4, Hi: 9}, api.Range{Lo: -2, Hi: 2}, api.Range{Lo: -2, Hi: 2}, 0},
		{"the same", api.Range{Lo: 7, Hi: 7}, api.Range{Lo: 7, Hi: 7}, api.Range{Lo: 7, Hi: 7}, 0},
		{"touching", api.Range{Lo: 1, Hi: 5}, api.Range{Lo: 5, Hi: 9}, api.Range{Lo: 5, Hi: 5}, 0},
		{"beside each other", api.Range{Lo: 1, Hi: 5}, api.Range{Lo: 6, Hi: 9}, api.Range{Lo: 6, Hi: 5}, 1},
		{"far apart", api.Range{Lo: -9, Hi: -8}, api.Range{Lo: 8, Hi: 9}, api.Range{Lo: 8, Hi: -8}, 16},
	} {
		for _, both := range [][2]api.Range{{c.a, c.b}, {c.b, c.a}} {
			if r := rules.Common(both[0], both[1]); r != c.common {
				t.Errorf("Common of %s: %v, want %v", c.name, r, c.common)
			}
			if n := rules.Apart(both[0], both[1]); n != c.apart {
				t.Errorf("Apart of %s: %d, want %d", c.name, n, c.apart)
			}
		}
	}
}

func TestStretches(t *testing.T) {
	for _, c := range []struct {
		name  string
		span  api.Range
		such  []int
		found []api.Range
	}{
		{"no numbers", api.Range{Lo: 0, Hi: -1}, []int{0, -1}, nil},
		{"none", api.Range{Lo: 0, Hi: 4}, nil, nil},
		{"all", api.Range{Lo: -1, Hi: 2}, []int{-2, -1, 0, 1, 2, 3}, []api.Range{{Lo: -1, Hi: 2}}},
		{"the ends", api.Range{Lo: 3, Hi: 6}, []int{3, 6}, []api.Range{{Lo: 3, Hi: 3}, {Lo: 6, Hi: 6}}},
		{"between the ends", api.Range{Lo: 3, Hi: 8}, []int{4, 5, 7}, []api.Range{{Lo: 4, Hi: 5}, {Lo: 7, Hi: 7}}},
		{"beyond the ends", api.Range{Lo: 3, Hi: 8}, []int{2, 9}, nil},
	} {
		l := rules.Stretches(c.span, func(n int) bool { return slices.Contains(c.such, n) })
		if !slices.Equal(l, c.found) {
			t.Errorf("Stretches: %s: %v, want %v", c.name, l, c.found)
		}
	}
}
