package fix_test

import (
	"fmt"
	"math"
	"testing"

	"moonpool/api"
	"moonpool/fix"
)

// P5.2 (DepthIn and SquaresIn)

func TestDepthIn(t *testing.T) {
	for _, c := range []struct{ pressure, density, depth api.Range }{
		{spanOf(10, 11), spanOf(1000, 1100), spanOf(9, 11)},
		{spanOf(0, 0), spanOf(1, 2000), spanOf(0, 0)},
		{spanOf(0, 1), spanOf(2000, 2000), spanOf(0, 1)},
		{spanOf(1, 1), spanOf(1001, 1001), spanOf(0, 1)},
		{spanOf(1, 1), spanOf(999, 999), spanOf(1, 2)},
		{spanOf(7, 7), spanOf(1000, 1000), spanOf(7, 7)},
		{spanOf(2, 4), spanOf(500, 2000), spanOf(1, 8)},
		{spanOf(1000000, 1000000), spanOf(1, 1), spanOf(1000000000, 1000000000)},
		{spanOf(0, 1000000), spanOf(3, 2000), spanOf(0, 333333334)},
	} {
		d, e := fix.DepthIn(c.pressure, c.density)
		want(t, fmt.Sprint("DepthIn of ", c.pressure, c.density), d, e, c.depth, api.OK)
	}
}

// TestDepthInIsTight compares products instead of quotients.
func TestDepthInIsTight(t *testing.T) {
	r := newRandom()
	for range 2000 {
		pressure, density := randomSpan(r, spanOf(0, 1000000)), randomSpan(r, spanOf(1, 2000))
		d, e := fix.DepthIn(pressure, density)
		low, high := pressure.Lo*1000, pressure.Hi*1000
		isTight := d.Lo*density.Hi <= low && low < (d.Lo+1)*density.Hi && (d.Hi-1)*density.Lo < high && high <= d.Hi*density.Lo
		if e != api.OK || !isTight {
			t.Fatalf("DepthIn of %v, %v: %v, error %d", pressure, density, d, e)
		}
	}
}

func TestBadDepths(t *testing.T) {
	pressure, density := spanOf(10, 11), spanOf(1000, 1100)
	for _, c := range []struct {
		pressure, density api.Range
		err               api.Errno
	}{
		{spanOf(-1, 11), density, api.ErrRange},
		{spanOf(10, 1000001), density, api.ErrRange},
		{spanOf(1000001, 11), density, api.ErrRange},
		{spanOf(10, -1), density, api.ErrRange},
		{spanOf(math.MinInt, math.MaxInt), density, api.ErrRange},
		{pressure, spanOf(0, 1100), api.ErrRange},
		{pressure, spanOf(1000, 2001), api.ErrRange},
		{pressure, spanOf(2001, 1100), api.ErrRange},
		{pressure, spanOf(1000, 0), api.ErrRange},
		{pressure, spanOf(math.MinInt, math.MaxInt), api.ErrRange},
		{spanOf(11, 10), density, api.ErrOrder},
		{pressure, spanOf(1100, 1000), api.ErrOrder},
		{spanOf(11, 10), spanOf(1000, 2001), api.ErrRange},
		{api.Range{}, api.Range{}, api.ErrRange},
	} {
		d, e := fix.DepthIn(c.pressure, c.density)
		want(t, fmt.Sprint("DepthIn of ", c.pressure, c.density), d, e, api.Range{}, c.err)
	}
}

func TestSquaresIn(t *testing.T) {
	for _, c := range []struct {
		name    string
		net     api.FixNet
		beacon  int
		box     api.FixBox
		squares api.Range
	}{
		{"example", exampleNet(), 1, exampleBox(), spanOf(13, 45)},
		{"the beacon alone", exampleNet(), 1, boxOf(6, 6, 0, 0, 0, 0), spanOf(0, 0)},
		{"one position", exampleNet(), 0, boxOf(-3, -3, 4, 4, 12, 12), spanOf(169, 169)},
		{"around the beacon", exampleNet(), 0, boxOf(-1, 2, -3, 1, 0, 1), spanOf(0, 4+9+1)},
		{"the nearer end", exampleNet(), 0, boxOf(-4, -2, 3, 5, 2, 3), spanOf(4+9+4, 16+25+9)},
		{"from corner to corner", greatNet(), 0, greatNet().World, spanOf(0, 900000000)},
		{"a beacon above the world", greatNet(), 1, greatNet().World, spanOf(100000000, 1200000000)},
	} {
		r, e := fix.SquaresIn(c.net, c.beacon, c.box)
		want(t, "SquaresIn: "+c.name, r, e, c.squares, api.OK)
	}
}

func TestSquaresInOfAllPositions(t *testing.T) {
	r := newRandom()
	for range 1000 {
		n := randomNet(r, 5)
		b := randomBox(r, n.World)
		for i, beacon := range n.Beacons {
			squares := spanOf(math.MaxInt, 0)
			for _, p := range allIn(b) {
				s := squareOf(p, beacon.Place)
				squares = spanOf(min(squares.Lo, s), max(squares.Hi, s))
			}
			got, e := fix.SquaresIn(n, i, b)
			want(t, fmt.Sprint("SquaresIn of ", n, i, b), got, e, squares, api.OK)
		}
	}
}

func TestMissingBeacons(t *testing.T) {
	empty := worldOf(-10, 10, -10, 10, 0, 20)
	for _, c := range []struct {
		net    api.FixNet
		beacon int
		box    api.FixBox
	}{
		{exampleNet(), -1, exampleBox()},
		{exampleNet(), 2, exampleBox()},
		{exampleNet(), math.MinInt, exampleBox()},
		{exampleNet(), math.MaxInt, exampleBox()},
		{exampleNet(), 2, boxOf(1, 0, 0, 0, 0, 0)},
		{empty, 0, exampleBox()},
	} {
		r, e := fix.SquaresIn(c.net, c.beacon, c.box)
		want(t, fmt.Sprint("SquaresIn of the beacon ", c.beacon), r, e, api.Range{}, api.ErrMissing)
	}
}
