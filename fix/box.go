package fix

import (
	"iter"

	"moonpool/api"
	"moonpool/rules"
)

// The coordinates of positions.
const (
	inX = iota
	inY
	inZ
	coordinates // how many there are
)

// place is a given position.
type place [coordinates]int

// box is a given box, or the speeds of a move. It is empty if Lo of a coordinate is greater than Hi.
type box [coordinates]api.Range

func placeOf(p api.FixPlace) place { return place{p.X, p.Y, p.Z} }

func (p place) given() api.FixPlace { return api.FixPlace{X: p[inX], Y: p[inY], Z: p[inZ]} }

func boxOf(b api.FixBox) box { return box{b.X, b.Y, b.Z} }

func (b box) given() api.FixBox { return api.FixBox{X: b.x(), Y: b.y(), Z: b.z()} }

func (b box) x() api.Range { return b[inX] }

func (b box) y() api.Range { return b[inY] }

func (b box) z() api.Range { return b[inZ] }

// alone is the box of one position.
func (p place) alone() box {
	var b box
	for i, n := range p {
		b[i] = api.Range{Lo: n, Hi: n}
	}
	return b
}

// orderError is ErrOrder if a box is empty.
func (b box) orderError() api.Errno {
	_, e := rules.FirstBad(b[:], rules.OrderError)
	return e
}

func (b box) isEmpty() bool { return b.orderError() != api.OK }

// common is what two boxes have in common. It may be empty.
func (b box) common(c box) box {
	for i := range b {
		b[i] = rules.Common(b[i], c[i])
	}
	return b
}

// liesIn is whether all positions of a box are in another one.
func (b box) liesIn(c box) bool { return b.common(c) == b }

// with is the smallest box that contains a box and a position.
func (b box) with(p place) box {
	for i, n := range p {
		b[i] = api.Range{Lo: min(b[i].Lo, n), Hi: max(b[i].Hi, n)}
	}
	return b
}

// size is the size of a box that is not empty.
func (b box) size() int {
	size := 1
	for _, r := range b {
		size *= r.Hi - r.Lo + 1
	}
	return size
}

// places yields the positions of a box, by X, then Y, then Z.
func (b box) places() iter.Seq[place] {
	return func(yield func(p place) bool) {
		for x := b.x().Lo; x <= b.x().Hi; x++ {
			for y := b.y().Lo; y <= b.y().Hi; y++ {
				for z := b.z().Lo; z <= b.z().Hi; z++ {
					if !yield(place{x, y, z}) {
						return
					}
				}
			}
		}
	}
}

// squaresTo are the squares of the distances of a position from those of a box that is not empty.
func (p place) squaresTo(b box) api.Range {
	var squares api.Range
	for i, r := range b {
		squares.Lo += square(max(r.Lo-p[i], p[i]-r.Hi, 0))
		squares.Hi += square(max(p[i]-r.Lo, r.Hi-p[i]))
	}
	return squares
}

func square(n int) int { return n * n }
