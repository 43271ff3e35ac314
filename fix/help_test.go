package fix_test

import (
	"fmt"
	"math/rand/v2"
	"testing"

	"moonpool/api"
	"moonpool/fix"
)

// want compares a result and an error. Results are compared as they are printed: a nil slice and an empty one are the same result.
func want(t *testing.T, what string, got any, e api.Errno, wanted any, err api.Errno) {
	t.Helper()
	if fmt.Sprint(got) != fmt.Sprint(wanted) || e != err {
		t.Errorf("%s: %v, error %d, want %v, error %d", what, got, e, wanted, err)
	}
}

func spanOf(lo, hi int) api.Range { return api.Range{Lo: lo, Hi: hi} }

// boxOf is the box with these ends of X, Y and Z.
func boxOf(ends ...int) api.FixBox {
	return api.FixBox{X: spanOf(ends[0], ends[1]), Y: spanOf(ends[2], ends[3]), Z: spanOf(ends[4], ends[5])}
}

func placeOf(x, y, z int) api.FixPlace { return api.FixPlace{X: x, Y: y, Z: z} }

// moveOf is ticks, and the ends of the speeds in X, Y and Z.
func moveOf(ticks int, ends ...int) api.FixMove {
	return api.FixMove{Ticks: ticks, Speed: boxOf(ends...)}
}

func rangeOf(index, lo, hi int) api.FixReading {
	return api.FixReading{Kind: api.FixRange, Index: index, Value: spanOf(lo, hi)}
}

func axisOf(index, lo, hi int) api.FixReading {
	return api.FixReading{Kind: api.FixAxis, Index: index, Value: spanOf(lo, hi)}
}

func voteOf(wrong int, l ...api.FixReading) api.FixVote {
	return api.FixVote{Readings: l, Wrong: wrong}
}

// exampleNet is the net n of the chapter's examples.
func exampleNet() api.FixNet {
	return api.FixNet{
		World:   boxOf(-10, 10, -10, 10, 0, 20),
		Beacons: []api.FixBeacon{{Name: "a"}, {Name: "b", Place: placeOf(6, 0, 0)}},
	}
}

// exampleBox, exampleMove and exampleReadings are those of examples 1, 4 and 5.
func exampleBox() api.FixBox { return boxOf(0, 4, 0, 0, 3, 3) }

func exampleMove() api.FixMove { return moveOf(2, 1, 3, 0, 1, -1, 0) }

func exampleReadings() []api.FixReading {
	return []api.FixReading{rangeOf(0, 5, 5), rangeOf(1, 5, 5), axisOf(2, 0, 1)}
}

// exampleSteps are those of example 7.
func exampleSteps() []api.FixStep {
	m := moveOf(1, 0, 2, 0, 0, 0, 0)
	return []api.FixStep{{Move: m}, {Move: m, Vote: voteOf(0, axisOf(0, 4, 9))}}
}

// greatNet is a net whose world is the greatest one, with beacons in its corners and far above it.
func greatNet() api.FixNet {
	return api.FixNet{
		World: boxOf(-10000, 10000, -10000, 10000, 0, 10000),
		Beacons: []api.FixBeacon{
			{Name: "corner", Place: placeOf(-10000, -10000, 0)},
			{Name: "above", Place: placeOf(10000, 10000, -10000)},
		},
	}
}

func newRandom() *rand.Rand { return rand.New(rand.NewPCG(5, 5)) }

// between is a random number from low to high.
func between(r *rand.Rand, low, high int) int { return low + r.IntN(high-low+1) }

// randomSpan is a random range in another one.
func randomSpan(r *rand.Rand, in api.Range) api.Range {
	lo := between(r, in.Lo, in.Hi)
	return spanOf(lo, between(r, lo, in.Hi))
}

func randomBox(r *rand.Rand, in api.FixBox) api.FixBox {
	return api.FixBox{X: randomSpan(r, in.X), Y: randomSpan(r, in.Y), Z: randomSpan(r, in.Z)}
}

func randomPlace(r *rand.Rand, in api.FixBox) api.FixPlace {
	return placeOf(between(r, in.X.Lo, in.X.Hi), between(r, in.Y.Lo, in.Y.Hi), between(r, in.Z.Lo, in.Z.Hi))
}

// randomNet has a world of at most side numbers in each coordinate, and beacons in and around it.
func randomNet(r *rand.Rand, side int) api.FixNet {
	var n api.FixNet
	for _, c := range []*api.Range{&n.World.X, &n.World.Y, &n.World.Z} {
		c.Lo = between(r, 0, 3)
		c.Hi = c.Lo + r.IntN(side)
	}
	n.World.X.Lo, n.World.X.Hi = -n.World.X.Hi, -n.World.X.Lo
	for i := range r.IntN(4) {
		n.Beacons = append(n.Beacons, api.FixBeacon{Name: fmt.Sprintf("b%d", i), Place: randomPlace(r, boxOf(-8, 8, -8, 8, -8, 8))})
	}
	return n
}

// randomReading agrees with a position, but for a chance of one in five that it is about another one.
func randomReading(r *rand.Rand, n api.FixNet, p api.FixPlace) api.FixReading {
	if r.IntN(5) == 0 {
		p = randomPlace(r, n.World)
	}
	if len(n.Beacons) == 0 || r.IntN(3) == 0 {
		i := r.IntN(3)
		c := numbersOf(p)[i]
		return axisOf(i, c-r.IntN(3), c+r.IntN(3))
	}
	i := r.IntN(len(n.Beacons))
	d := 0
	for (d+1)*(d+1) <= squareOf(p, n.Beacons[i].Place) {
		d++
	}
	return rangeOf(i, max(0, d-r.IntN(2)), d+1+r.IntN(2))
}

func randomReadings(r *rand.Rand, n api.FixNet, p api.FixPlace, most int) []api.FixReading {
	var l []api.FixReading
	for range r.IntN(most + 1) {
		l = append(l, randomReading(r, n, p))
	}
	return l
}

func randomMove(r *rand.Rand) api.FixMove {
	return api.FixMove{Ticks: r.IntN(4), Speed: randomBox(r, boxOf(-2, 2, -2, 2, -2, 2))}
}

// randomSteps are often those of some path that begins in a box.
func randomSteps(r *rand.Rand, n api.FixNet, b api.FixBox, count int) []api.FixStep {
	var l []api.FixStep
	p := randomPlace(r, b)
	for range count {
		s := api.FixStep{Move: randomMove(r)}
		if next, ok := movedTo(r, n, p, s.Move); ok {
			p = next
		}
		s.Vote.Readings = randomReadings(r, n, p, 4)
		s.Vote.Wrong = r.IntN(min(len(s.Vote.Readings), 2) + 1)
		l = append(l, s)
	}
	return l
}

// movedTo is where a position is after it moved tick by tick, and whether this is in the world.
func movedTo(r *rand.Rand, n api.FixNet, p api.FixPlace, m api.FixMove) (api.FixPlace, bool) {
	for range m.Ticks {
		by := randomPlace(r, m.Speed)
		p = placeOf(p.X+by.X, p.Y+by.Y, p.Z+by.Z)
	}
	return p, isIn(p, n.World)
}

func numbersOf(p api.FixPlace) []int { return []int{p.X, p.Y, p.Z} }

func spansOf(b api.FixBox) []api.Range { return []api.Range{b.X, b.Y, b.Z} }

func isIn(p api.FixPlace, b api.FixBox) bool {
	for i, r := range spansOf(b) {
		if c := numbersOf(p)[i]; c < r.Lo || c > r.Hi {
			return false
		}
	}
	return true
}

// isBoxIn is whether a box lies in another one.
func isBoxIn(a, b api.FixBox) bool {
	return isIn(placeOf(a.X.Lo, a.Y.Lo, a.Z.Lo), b) && isIn(placeOf(a.X.Hi, a.Y.Hi, a.Z.Hi), b)
}

func squareOf(p, q api.FixPlace) int {
	sum := 0
	for i, c := range numbersOf(p) {
		d := c - numbersOf(q)[i]
		sum += d * d
	}
	return sum
}

// agrees is whether a position agrees with a reading.
func agrees(n api.FixNet, r api.FixReading, p api.FixPlace) bool {
	if r.Kind == api.FixAxis {
		c := numbersOf(p)[r.Index]
		return c >= r.Value.Lo && c <= r.Value.Hi
	}
	s := squareOf(p, n.Beacons[r.Index].Place)
	return s >= r.Value.Lo*r.Value.Lo && s <= r.Value.Hi*r.Value.Hi
}

// wrongAt are the indexes of the readings with which a position does not agree.
func wrongAt(n api.FixNet, l []api.FixReading, p api.FixPlace) []int {
	var wrong []int
	for i, r := range l {
		if !agrees(n, r, p) {
			wrong = append(wrong, i)
		}
	}
	return wrong
}

// allIn are the positions of a box, by X, then Y, then Z.
func allIn(b api.FixBox) []api.FixPlace {
	var all []api.FixPlace
	for x := b.X.Lo; x <= b.X.Hi; x++ {
		for y := b.Y.Lo; y <= b.Y.Hi; y++ {
			for z := b.Z.Lo; z <= b.Z.Hi; z++ {
				all = append(all, placeOf(x, y, z))
			}
		}
	}
	return all
}

// those are the positions that are such.
func those(l []api.FixPlace, such func(p api.FixPlace) bool) []api.FixPlace {
	var some []api.FixPlace
	for _, p := range l {
		if such(p) {
			some = append(some, p)
		}
	}
	return some
}

// around is the smallest box that contains positions, or ErrNone if there are none.
func around(l []api.FixPlace) (api.FixBox, api.Errno) {
	if len(l) == 0 {
		return api.FixBox{}, api.ErrNone
	}
	x, y, z := spanOf(l[0].X, l[0].X), spanOf(l[0].Y, l[0].Y), spanOf(l[0].Z, l[0].Z)
	for _, p := range l {
		x = spanOf(min(x.Lo, p.X), max(x.Hi, p.X))
		y = spanOf(min(y.Lo, p.Y), max(y.Hi, p.Y))
		z = spanOf(min(z.Lo, p.Z), max(z.Hi, p.Z))
	}
	return api.FixBox{X: x, Y: y, Z: z}, api.OK
}

func TestExamplesAreValid(t *testing.T) {
	i, e := fix.CheckSteps(exampleNet(), exampleSteps())
	want(t, "CheckSteps", i, e, 0, api.OK)
	i, e = fix.CheckReadings(exampleNet(), exampleReadings())
	want(t, "CheckReadings", i, e, 0, api.OK)
	want(t, "CheckBox", nil, fix.CheckBox(exampleNet(), exampleBox()), nil, api.OK)
	i, e = fix.CheckNet(greatNet())
	want(t, "CheckNet", i, e, 0, api.OK)
}
