package sonar_test

import (
	"math"
	"slices"
	"testing"

	"moonpool/api"
	"moonpool/sonar"
)

// P4.4, P4.11

// cellsOf are cells with these columns and rows.
func cellsOf(numbers ...int) []api.SonarCell {
	var cells []api.SonarCell
	for i := 0; i < len(numbers); i += 2 {
		cells = append(cells, api.SonarCell{X: numbers[i], Y: numbers[i+1]})
	}
	return cells
}

func TestCrossedBy(t *testing.T) {
	for _, c := range []struct {
		name  string
		ray   api.SonarRay
		cells []api.SonarCell
		err   api.Errno
	}{
		{"example", rayOf(0, 0, 3, 1, true), cellsOf(0, 0, 1, 0, 2, 1, 3, 1), api.OK},
		{"without a hit it crosses the same", rayOf(0, 0, 3, 1, false), cellsOf(0, 0, 1, 0, 2, 1, 3, 1), api.OK},
		{"back", rayOf(3, 1, 0, 0, true), cellsOf(0, 0, 1, 0, 2, 1, 3, 1), api.OK},
		{"to itself", rayOf(5, 7, 5, 7, true), cellsOf(5, 7), api.OK},
		{"to itself without a hit", rayOf(0, 0, 0, 0, false), cellsOf(0, 0), api.OK},
		{"through a corner", rayOf(0, 0, 1, 1, false), cellsOf(0, 0, 1, 1), api.OK},
		{"through corners", rayOf(3, 0, 0, 3, false), cellsOf(3, 0, 2, 1, 1, 2, 0, 3), api.OK},
		{"a row", rayOf(4, 11, 1, 11, false), cellsOf(1, 11, 2, 11, 3, 11, 4, 11), api.OK},
		{"a column", rayOf(11, 2, 11, 4, true), cellsOf(11, 2, 11, 3, 11, 4), api.OK},
		{"two columns and one row", rayOf(0, 0, 2, 1, false), cellsOf(0, 0, 1, 0, 1, 1, 2, 1), api.OK},
		{"one column and two rows, upwards", rayOf(1, 2, 0, 0, false), cellsOf(0, 0, 0, 1, 1, 1, 1, 2), api.OK},
		{"two columns and three rows", rayOf(2, 0, 0, 3, true), cellsOf(2, 0, 1, 1, 2, 1, 0, 2, 1, 2, 0, 3), api.OK},
		{"column of From too small", rayOf(-1, 0, 0, 0, false), nil, api.ErrRange},
		{"column of From too great", rayOf(12, 0, 0, 0, false), nil, api.ErrRange},
		{"row of From too small", rayOf(0, -1, 0, 0, false), nil, api.ErrRange},
		{"row of From too great", rayOf(0, 12, 0, 0, false), nil, api.ErrRange},
		{"column of To too small", rayOf(0, 0, -1, 0, false), nil, api.ErrRange},
		{"column of To too great", rayOf(0, 0, 12, 0, false), nil, api.ErrRange},
		{"row of To too small", rayOf(0, 0, 0, -1, false), nil, api.ErrRange},
		{"row of To too great", rayOf(0, 0, 0, 12, false), nil, api.ErrRange},
		{"the least and the greatest int", rayOf(math.MinInt, 0, math.MaxInt, 0, false), nil, api.ErrRange},
	} {
		cells, e := sonar.CrossedBy(c.ray)
		want(t, "CrossedBy: "+c.name, cells, e, c.cells, c.err)
	}
}

// everyRay calls something with each ray from a few cells to all others.
func everyRay(use func(r api.SonarRay)) {
	last := api.MaxSonarSide - 1
	for _, from := range cellsOf(0, 0, last, 0, 0, last, last, last, 5, 6) {
		for x := range api.MaxSonarSide {
			for y := range api.MaxSonarSide {
				use(rayOf(from.X, from.Y, x, y, (x+y)%2 == 0))
			}
		}
	}
}

func TestCrossedCellsAreWalked(t *testing.T) {
	everyRay(func(r api.SonarRay) {
		cells, e := sonar.CrossedBy(r)
		want(t, "CrossedBy", cells, e, walked(r), api.OK)
	})
}

func TestRaysThatGoBack(t *testing.T) {
	everyRay(func(r api.SonarRay) {
		cells, e := sonar.CrossedBy(r)
		want(t, "From is crossed", slices.Contains(cells, r.From), e, true, api.OK)
		want(t, "To is crossed", slices.Contains(cells, r.To), e, true, api.OK)
		back, e := sonar.CrossedBy(api.SonarRay{From: r.To, To: r.From, Hit: r.Hit})
		want(t, "CrossedBy, back", back, e, cells, api.OK)
	})
}
