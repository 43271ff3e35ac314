package cable

import (
	"moonpool/api"
	"moonpool/rules"
)

// OffsetsOf is in P1.3.
func OffsetsOf(l api.CableLine, currents []int) ([]api.Frac, api.Errno) {
	if e := shapeError(l, currents); e != api.OK {
		return nil, e
	}
	var offsets []api.Frac
	for p := range (line{l}).pulls(still(currents)) {
		offsets = append(offsets, rules.Lowest(p.Height*p.X.Lo, p.Z))
	}
	return offsets, api.OK
}

// LaybackOf is in P1.3.
func LaybackOf(l api.CableLine, currents []int) (api.Range, api.Errno) {
	if e := shapeError(l, currents); e != api.OK {
		return api.Range{}, e
	}
	return line{l}.total(still(currents), pull.offsets), api.OK
}

// LengthOf is in P1.3.
func LengthOf(l api.CableLine, currents []int) (api.Range, api.Errno) {
	if e := shapeError(l, currents); e != api.OK {
		return api.Range{}, e
	}
	return line{l}.total(still(currents), pull.lengths), api.OK
}

// LaybackIn is in P1.5.
func LaybackIn(l api.CableLine, b []api.Range) (api.Range, api.Errno) {
	if e := boxShapeError(l, b); e != api.OK {
		return api.Range{}, e
	}
	return line{l}.total(b, pull.offsets), api.OK
}

// EnoughFor is in P1.5.
func EnoughFor(l api.CableLine, b []api.Range) (int, api.Errno) {
	if e := boxShapeError(l, b); e != api.OK {
		return 0, e
	}
	return line{l}.total(b, pull.lengths).Hi, api.OK
}

// PullsIn is in P1.5.
func PullsIn(l api.CableLine, b []api.Range) ([]api.Range, api.Errno) {
	if e := boxError(l, b); e != api.OK {
		return nil, e
	}
	var pulls []api.Range
	for p := range (line{l}).pulls(b) {
		pulls = append(pulls, p.X)
	}
	return pulls, api.OK
}

// SquaresIn is in P1.5.
func SquaresIn(l api.CableLine, b []api.Range) ([]api.Range, api.Errno) {
	if e := boxError(l, b); e != api.OK {
		return nil, e
	}
	var squares []api.Range
	for p := range (line{l}).pulls(b) {
		squares = append(squares, p.squares())
	}
	return squares, api.OK
}

// offsets goes from the smallest offset, rounded down, to the greatest one, rounded up, of a link that is not slack.
func (p pull) offsets() api.Range {
	return api.Range{Lo: rules.Floor(p.Height*p.X.Lo, p.Z), Hi: rules.Ceiling(p.Height*p.X.Hi, p.Z)}
}

// lengths goes from the smallest length, rounded down, to the greatest one, rounded up, of a link that is not slack.
// The length is the root of a whole number, divided by Z: a quotient rounds as that of the rounded root does.
func (p pull) lengths() api.Range {
	squares := p.squares()
	area := p.Height * p.Height
	return api.Range{Lo: rules.Floor(root(area*squares.Lo), p.Z), Hi: rules.Ceiling(rootUp(area*squares.Hi), p.Z)}
}

// squares is the range of the square of the tension.
func (p pull) squares() api.Range {
	low, high := p.X.Lo*p.X.Lo, p.X.Hi*p.X.Hi
	least := min(low, high)
	if p.X.Lo <= 0 && 0 <= p.X.Hi {
		least = 0
	}
	return api.Range{Lo: least + p.Z*p.Z, Hi: max(low, high) + p.Z*p.Z}
}
