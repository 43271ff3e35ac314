package sonar

import (
	"iter"
	"slices"

	"moonpool/api"
	"moonpool/rules"
)

// grid is columns and rows.
type grid struct{ wide, high int }

// CrossedBy is in P4.4.
func CrossedBy(r api.SonarRay) ([]api.SonarCell, api.Errno) {
	if e := rules.LimitsError(0, api.MaxSonarSide-1, r.From.X, r.From.Y, r.To.X, r.To.Y); e != api.OK {
		return nil, e
	}
	return slices.Collect(crossed(r)), api.OK
}

// crossed yields the cells that a ray crosses, ascending by Y, then by X.
func crossed(r api.SonarRay) iter.Seq[api.SonarCell] {
	return func(yield func(c api.SonarCell) bool) {
		for y := min(r.From.Y, r.To.Y); y <= max(r.From.Y, r.To.Y); y++ {
			for x := min(r.From.X, r.To.X); x <= max(r.From.X, r.To.X); x++ {
				c := api.SonarCell{X: x, Y: y}
				if crosses(r, c) && !yield(c) {
					return
				}
			}
		}
	}
}

// crosses is whether a ray crosses a cell that is between its ends in columns and rows: whether corners of the cell lie on both sides of its line.
// The sign of aside says on which side the middle of the cell lies; for a corner, half the columns and half the rows that the ray goes are added or subtracted.
// A ray that goes nowhere has no sides.
func crosses(r api.SonarRay, c api.SonarCell) bool {
	columns, rows := r.To.X-r.From.X, r.To.Y-r.From.Y
	aside := columns*(c.Y-r.From.Y) - rows*(c.X-r.From.X)
	return c == r.From || rules.Within(2*aside, max(columns, -columns)+max(rows, -rows)-1)
}

func (g grid) sizeError() api.Errno {
	return rules.LimitsError(1, api.MaxSonarSide, g.wide, g.high)
}

func (g grid) rayError(r api.SonarRay) api.Errno {
	if !g.holds(r.From) || !g.holds(r.To) {
		return api.ErrMissing
	}
	return api.OK
}

func (g grid) holds(c api.SonarCell) bool {
	return c.X >= 0 && c.X < g.wide && c.Y >= 0 && c.Y < g.high
}

// cells is how many cells a grid has.
func (g grid) cells() int { return g.wide * g.high }

// says yields what a ray says of the cells that it crosses: their numbers, and SonarFree or SonarTaken.
func (g grid) says(r api.SonarRay) iter.Seq2[int, int] {
	return func(yield func(cell, state int) bool) {
		for c := range crossed(r) {
			state := api.SonarFree
			if r.Hit && c == r.To {
				state = api.SonarTaken
			}
			if !yield(c.Y*g.wide+c.X, state) {
				return
			}
		}
	}
}
