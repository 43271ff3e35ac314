package arm

import (
	"iter"

	"moonpool/api"
)

// cell is a cell of the grid, or a direction in it.
type cell = [2]int

// box is a given box.
type box api.ArmBox

// wholeTurn is how many quarters are a whole turn.
const wholeTurn = 4

// direction is that of a link, or of a force, that is turned by so many quarters in all.
func direction(turned int) cell {
	// The remainder of negative quarters would be negative; their last two bits are not.
	return [wholeTurn]cell{{1, 0}, {0, 1}, {-1, 0}, {0, -1}}[turned&(wholeTurn-1)]
}

// ahead is the cell that is so much further in a direction.
func ahead(from cell, turned, length int) cell {
	d := direction(turned)
	return cell{from[0] + length*d[0], from[1] + length*d[1]}
}

// around is the smallest box that contains a cell and others.
func around(first cell, others ...cell) box {
	b := box{X: api.Range{Lo: first[0], Hi: first[0]}, Y: api.Range{Lo: first[1], Hi: first[1]}}
	for _, c := range others {
		b.X = with(b.X, c[0])
		b.Y = with(b.Y, c[1])
	}
	return b
}

// with is the smallest range that contains a range and a number.
func with(r api.Range, n int) api.Range { return api.Range{Lo: min(r.Lo, n), Hi: max(r.Hi, n)} }

// cells yields the cells of a box, by X, then Y.
func (b box) cells() iter.Seq[cell] {
	return func(yield func(c cell) bool) {
		for x := b.X.Lo; x <= b.X.Hi; x++ {
			for y := b.Y.Lo; y <= b.Y.Hi; y++ {
				if !yield(cell{x, y}) {
					return
				}
			}
		}
	}
}

// liesIn is whether all cells of a box are in another one.
func (b box) liesIn(c box) bool { return liesIn(b.X, c.X) && liesIn(b.Y, c.Y) }

func liesIn(r, s api.Range) bool { return s.Lo <= r.Lo && r.Hi <= s.Hi }

// touches is whether two boxes have a cell in common.
func (b box) touches(c box) bool { return meet(b.X, c.X) && meet(b.Y, c.Y) }

func meet(r, s api.Range) bool { return r.Lo <= s.Hi && s.Lo <= r.Hi }
