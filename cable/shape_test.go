package cable_test

import (
	"math/big"
	"slices"
	"testing"

	"moonpool/api"
	"moonpool/cable"
)

// P1.3, P1.5, P1.10

func TestShape(t *testing.T) {
	l, c := exampleLine(), exampleCurrents()
	f, e := cable.OffsetsOf(l, c)
	want(t, "OffsetsOf", f, e, []api.Frac{{Num: 1, Den: 1}, {Num: 1, Den: 5}, {Num: 1, Den: 10}}, api.OK)
	r, e := cable.LaybackOf(l, c)
	want(t, "LaybackOf", r, e, api.Range{Lo: 1, Hi: 3}, api.OK)
	r, e = cable.LengthOf(l, c)
	want(t, "LengthOf", r, e, api.Range{Lo: 25, Hi: 28}, api.OK)
}

func TestShapeToTheOtherSide(t *testing.T) {
	l, c := exampleLine(), []int{-4, 2, -7}
	f, e := cable.OffsetsOf(l, c)
	want(t, "OffsetsOf", f, e, []api.Frac{{Num: -1, Den: 1}, {Num: -1, Den: 5}, {Num: -1, Den: 10}}, api.OK)
	r, e := cable.LaybackOf(l, c)
	want(t, "LaybackOf", r, e, api.Range{Lo: -3, Hi: -1}, api.OK)
	r, e = cable.LengthOf(l, c)
	want(t, "LengthOf", r, e, api.Range{Lo: 25, Hi: 28}, api.OK)
}

func TestShapeOfWholeNumbers(t *testing.T) {
	// Triangles 3, 4, 5 and 5, 12, 13, and a straight link.
	l := api.CableLine{
		Load:  api.CableForce{X: 3, Z: 2},
		Links: []api.CableLink{{Height: 8, Weight: 2}, {Height: 12, Weight: 8, Drag: 2}, {Height: 7, Weight: -3, Drag: 5}},
	}
	c := []int{50, 1, -1}
	f, e := cable.OffsetsOf(l, c)
	want(t, "OffsetsOf", f, e, []api.Frac{{Num: 6, Den: 1}, {Num: 5, Den: 1}, {Num: 0, Den: 1}}, api.OK)
	r, e := cable.LaybackOf(l, c)
	want(t, "LaybackOf", r, e, api.Range{Lo: 11, Hi: 11}, api.OK)
	r, e = cable.LengthOf(l, c)
	want(t, "LengthOf", r, e, api.Range{Lo: 10 + 13 + 7, Hi: 10 + 13 + 7}, api.OK)
}

func TestShapeOfTheGreatestLine(t *testing.T) {
	l, c := extremes()
	l.Load.Z = -api.MaxCableWeight + 1
	for i := range l.Links {
		l.Links[i].Weight = 0
	}
	l.Links[0].Weight = api.MaxCableWeight
	f, e := cable.OffsetsOf(l, c)
	want(t, "OffsetsOf", f[9], e, api.Frac{Num: 20000000, Den: 1}, api.OK)
	r, e := cable.LaybackOf(l, c)
	want(t, "LaybackOf", r, e, api.Range{Lo: 155000000, Hi: 155000000}, api.OK)
	r, e = cable.LengthOf(l, c)
	want(t, "LengthOf", r, e, api.Range{Lo: 155000000, Hi: 155000010}, api.OK)
}

// offset is that of a link by the definition.
func offset(l api.CableLine, f []api.CableForce, link int) *big.Rat {
	return new(big.Rat).Mul(big.NewRat(int64(l.Links[link].Height), 1), big.NewRat(int64(f[link].X), int64(f[link].Z)))
}

// roundedDown is the greatest whole number that is not above x.
func roundedDown(x *big.Rat) int {
	return int(new(big.Int).Div(x.Num(), x.Denom()).Int64())
}

func roundedUp(x *big.Rat) int { return -roundedDown(new(big.Rat).Neg(x)) }

// lengthRounded is the length of a link by the definition, rounded down and up: the whole numbers are tried.
func lengthRounded(height int, offset *big.Rat) (int, int) {
	square := new(big.Rat).Mul(offset, offset)
	square.Add(square, big.NewRat(int64(height*height), 1))
	below := int(new(big.Int).Sqrt(new(big.Int).Div(square.Num(), square.Denom())).Int64())
	if square.Cmp(big.NewRat(int64(below*below), 1)) == 0 {
		return below, below
	}
	return below, below + 1
}

func TestShapeByDefinition(t *testing.T) {
	r := newRandom()
	for range 500 {
		l := randomTautLine(r)
		c := randomCurrents(r, len(l.Links))
		f, _ := cable.TensionsOf(l, c)
		var offsets []api.Frac
		var layback, length api.Range
		for i, k := range l.Links {
			x := offset(l, f, i)
			offsets = append(offsets, api.Frac{Num: int(x.Num().Int64()), Den: int(x.Denom().Int64())})
			layback.Lo += roundedDown(x)
			layback.Hi += roundedUp(x)
			low, high := lengthRounded(k.Height, x)
			length.Lo += low
			length.Hi += high
		}
		got, e := cable.OffsetsOf(l, c)
		want(t, "OffsetsOf", got, e, offsets, api.OK)
		x, e := cable.LaybackOf(l, c)
		want(t, "LaybackOf", x, e, layback, api.OK)
		x, e = cable.LengthOf(l, c)
		want(t, "LengthOf", x, e, length, api.OK)
	}
}

func TestBoxes(t *testing.T) {
	l, b := exampleLine(), exampleBox()
	p, e := cable.PullsIn(l, b)
	want(t, "PullsIn", p, e, []api.Range{{Lo: 6, Hi: 12}, {Lo: -4, Hi: 12}, {Lo: -4, Hi: 12}}, api.OK)
	s, e := cable.SquaresIn(l, b)
	want(t, "SquaresIn", s, e, []api.Range{{Lo: 14436, Hi: 14544}, {Lo: 10000, Hi: 10144}, {Lo: 10000, Hi: 10144}}, api.OK)
	r, e := cable.LaybackIn(l, b)
	want(t, "LaybackIn", r, e, api.Range{Lo: -2, Hi: 4}, api.OK)
	n, e := cable.EnoughFor(l, b)
	want(t, "EnoughFor", n, e, 28, api.OK)
}

func TestSquaresOfPullsAroundZero(t *testing.T) {
	line := func(x int) api.CableLine {
		return api.CableLine{Load: api.CableForce{X: x, Z: 3}, Links: []api.CableLink{{Height: 1, Drag: 1}}}
	}
	b := []api.Range{{Lo: -2, Hi: 4}}
	for _, c := range []struct {
		load    int
		squares api.Range
	}{
		{0, api.Range{Lo: 9, Hi: 25}},
		{-2, api.Range{Lo: 9, Hi: 25}},
		{2, api.Range{Lo: 9, Hi: 45}},
		{-4, api.Range{Lo: 9, Hi: 45}},
		{3, api.Range{Lo: 10, Hi: 58}},
		{-5, api.Range{Lo: 10, Hi: 58}},
	} {
		s, e := cable.SquaresIn(line(c.load), b)
		want(t, "SquaresIn", s, e, []api.Range{c.squares}, api.OK)
	}
}

func TestEnoughForCurrentsToTheOtherSide(t *testing.T) {
	// The greatest length is that of the pull -4, with a root of 25; that of 3 would be 5.
	l := api.CableLine{Load: api.CableForce{X: 0, Z: 3}, Links: []api.CableLink{{Height: 3, Drag: 1}}}
	n, e := cable.EnoughFor(l, []api.Range{{Lo: -4, Hi: 3}})
	want(t, "EnoughFor", n, e, 5, api.OK)
	n, e = cable.EnoughFor(l, []api.Range{{Lo: -3, Hi: 2}})
	want(t, "EnoughFor", n, e, 5, api.OK)
	n, e = cable.EnoughFor(l, []api.Range{{Lo: 0, Hi: 0}})
	want(t, "EnoughFor a straight link", n, e, 3, api.OK)
}

func TestBoxOfSingleCurrents(t *testing.T) {
	r := newRandom()
	for range 300 {
		l := randomTautLine(r)
		c := randomCurrents(r, len(l.Links))
		var b []api.Range
		for _, x := range c {
			b = append(b, api.Range{Lo: x, Hi: x})
		}
		var pulls, squares []api.Range
		f, _ := cable.TensionsOf(l, c)
		for _, x := range f {
			s := x.X*x.X + x.Z*x.Z
			pulls = append(pulls, api.Range{Lo: x.X, Hi: x.X})
			squares = append(squares, api.Range{Lo: s, Hi: s})
		}
		p, e := cable.PullsIn(l, b)
		want(t, "PullsIn", p, e, pulls, api.OK)
		p, e = cable.SquaresIn(l, b)
		want(t, "SquaresIn", p, e, squares, api.OK)
		layback, _ := cable.LaybackOf(l, c)
		x, e := cable.LaybackIn(l, b)
		want(t, "LaybackIn", x, e, layback, api.OK)
		length, _ := cable.LengthOf(l, c)
		n, e := cable.EnoughFor(l, b)
		want(t, "EnoughFor", n, e, length.Hi, api.OK)
	}
}

// TestBoxesByDefinition asks all the ends of pulls, which the ends of currents reach, for the ranges over a box.
func TestBoxesByDefinition(t *testing.T) {
	r := newRandom()
	for range 300 {
		l := randomTautLine(r)
		b := randomBox(r, len(l.Links))
		var low, high []int
		for _, x := range b {
			low, high = append(low, x.Lo), append(high, x.Hi)
		}
		f, _ := cable.TensionsOf(l, low)
		g, _ := cable.TensionsOf(l, high)
		var pulls []api.Range
		var layback api.Range
		enough := 0
		for i, k := range l.Links {
			pulls = append(pulls, api.Range{Lo: f[i].X, Hi: g[i].X})
			layback.Lo += roundedDown(offset(l, f, i))
			layback.Hi += roundedUp(offset(l, g, i))
			_, a := lengthRounded(k.Height, offset(l, f, i))
			_, b := lengthRounded(k.Height, offset(l, g, i))
			enough += max(a, b)
		}
		p, e := cable.PullsIn(l, b)
		want(t, "PullsIn", p, e, pulls, api.OK)
		x, e := cable.LaybackIn(l, b)
		want(t, "LaybackIn", x, e, layback, api.OK)
		n, e := cable.EnoughFor(l, b)
		want(t, "EnoughFor", n, e, enough, api.OK)
	}
}

func TestForEveryCurrent(t *testing.T) {
	r := newRandom()
	for range 500 {
		l := randomTautLine(r)
		b := randomBox(r, len(l.Links))
		c := currentsIn(r, b)
		pulls, _ := cable.PullsIn(l, b)
		squares, _ := cable.SquaresIn(l, b)
		f, _ := cable.TensionsOf(l, c)
		for i, x := range f {
			if !lies(x.X, pulls[i]) || !lies(x.X*x.X+x.Z*x.Z, squares[i]) {
				t.Fatalf("the tension %v is not in %v, %v", x, pulls[i], squares[i])
			}
		}
		layback, _ := cable.LaybackOf(l, c)
		laybacks, _ := cable.LaybackIn(l, b)
		length, _ := cable.LengthOf(l, c)
		enough, _ := cable.EnoughFor(l, b)
		if !liesWithin(layback, laybacks) || length.Hi > enough {
			t.Fatalf("layback %v of %v, length %v of %d", layback, laybacks, length, enough)
		}
	}
}

func TestBoxWithinABox(t *testing.T) {
	r := newRandom()
	for range 500 {
		l := randomTautLine(r)
		outer := randomBox(r, len(l.Links))
		inner := boxWithin(r, outer)
		pulls, _ := cable.PullsIn(l, inner)
		outerPulls, _ := cable.PullsIn(l, outer)
		squares, _ := cable.SquaresIn(l, inner)
		outerSquares, _ := cable.SquaresIn(l, outer)
		layback, _ := cable.LaybackIn(l, inner)
		outerLayback, _ := cable.LaybackIn(l, outer)
		ranges := slices.Concat(pulls, squares, []api.Range{layback})
		outerRanges := slices.Concat(outerPulls, outerSquares, []api.Range{outerLayback})
		for i, x := range ranges {
			if !liesWithin(x, outerRanges[i]) {
				t.Fatalf("the range %v is not within %v", x, outerRanges[i])
			}
		}
		enough, _ := cable.EnoughFor(l, inner)
		outerEnough, _ := cable.EnoughFor(l, outer)
		if enough > outerEnough {
			t.Fatalf("the length %d is above %d", enough, outerEnough)
		}
	}
}
