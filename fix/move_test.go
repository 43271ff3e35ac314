package fix_test

import (
	"fmt"
	"math"
	"testing"

	"moonpool/api"
	"moonpool/fix"
)

// P5.2 (Carried and CarriedBack), P5.7

func TestCarried(t *testing.T) {
	great := greatNet()
	corner := boxOf(-10000, -10000, -10000, -10000, 0, 0)
	for _, c := range []struct {
		name string
		net  api.FixNet
		box  api.FixBox
		move api.FixMove
		to   api.FixBox
	}{
		{"example", exampleNet(), exampleBox(), exampleMove(), boxOf(2, 10, 0, 2, 1, 3)},
		{"no ticks", exampleNet(), exampleBox(), moveOf(0, -100, 100, 5, 5, -7, -6), exampleBox()},
		{"no speed", exampleNet(), exampleBox(), moveOf(1000, 0, 0, 0, 0, 0, 0), exampleBox()},
		{"cut off above", exampleNet(), exampleBox(), moveOf(3, 3, 4, 2, 5, 1, 9), boxOf(9, 10, 6, 10, 6, 20)},
		{"cut off below", exampleNet(), exampleBox(), moveOf(3, -4, -3, -5, -2, -9, -1), boxOf(-10, -5, -10, -6, 0, 0)},
		{"to the last position", exampleNet(), exampleBox(), moveOf(1, 10, 10, -10, -10, -3, -3), boxOf(10, 10, -10, -10, 0, 0)},
		{"to all of the world", exampleNet(), exampleBox(), moveOf(1000, -100, 100, -100, 100, -100, 100), exampleNet().World},
		{"as far as possible", great, corner, moveOf(200, 100, 100, 0, 100, 50, 50), boxOf(10000, 10000, -10000, 10000, 10000, 10000)},
		{"more positions than can be searched", great, great.World, moveOf(10, 1, 2, -2, -1, 0, 0), boxOf(-9990, 10000, -10000, 9990, 0, 10000)},
	} {
		b, e := fix.Carried(c.net, c.box, c.move)
		want(t, "Carried: "+c.name, b, e, c.to, api.OK)
	}
}

func TestCarriedBack(t *testing.T) {
	great := greatNet()
	for _, c := range []struct {
		name string
		net  api.FixNet
		box  api.FixBox
		move api.FixMove
		from api.FixBox
	}{
		{"example", exampleNet(), boxOf(2, 10, 0, 2, 1, 3), exampleMove(), boxOf(-4, 8, -2, 2, 1, 5)},
		{"no ticks", exampleNet(), exampleBox(), moveOf(0, -100, 100, 5, 5, -7, -6), exampleBox()},
		{"cut off below", exampleNet(), exampleBox(), moveOf(3, 3, 4, 2, 5, 1, 9), boxOf(-10, -5, -10, -6, 0, 0)},
		{"cut off above", exampleNet(), exampleBox(), moveOf(3, -4, -3, -5, -2, -9, -1), boxOf(9, 10, 6, 10, 6, 20)},
		{"to all of the world", exampleNet(), exampleBox(), moveOf(1000, -100, 100, -100, 100, -100, 100), exampleNet().World},
		{"more positions than can be searched", great, great.World, moveOf(10, 1, 2, -2, -1, 0, 0), boxOf(-10000, 9990, -9990, 10000, 0, 10000)},
	} {
		b, e := fix.CarriedBack(c.net, c.box, c.move)
		want(t, "CarriedBack: "+c.name, b, e, c.from, api.OK)
	}
}

// badMoves are moves with errors.
func badMoves() map[api.Errno][]api.FixMove {
	return map[api.Errno][]api.FixMove{
		api.ErrRange: {
			moveOf(-1, 0, 0, 0, 0, 0, 0),
			moveOf(1001, 0, 0, 0, 0, 0, 0),
			moveOf(math.MinInt, 0, 0, 0, 0, 0, 0),
			moveOf(math.MaxInt, 0, 0, 0, 0, 0, 0),
			moveOf(1001, 1, 0, 0, 0, 0, 0),
			moveOf(0, -101, 0, 0, 0, 0, 0),
			moveOf(0, 0, 101, 0, 0, 0, 0),
			moveOf(1, 0, 0, -101, 0, 0, 0),
			moveOf(1, 0, 0, 0, 101, 0, 0),
			moveOf(1, 0, 0, 0, 0, -101, 0),
			moveOf(1, 0, 0, 0, 0, 0, 101),
			moveOf(1, 1, 0, 0, 0, 0, 101),
			moveOf(1, 101, -101, 0, 0, 0, 0),
			moveOf(1, 0, 0, math.MinInt, math.MaxInt, 0, 0),
			moveOf(1, 0, 0, 0, 0, math.MinInt, math.MinInt),
		},
		api.ErrOrder: {
			moveOf(0, 1, 0, 0, 0, 0, 0),
			moveOf(1, 0, 0, 100, -100, 0, 0),
			moveOf(1, 0, 0, 0, 0, -1, -2),
		},
	}
}

func TestBadMoves(t *testing.T) {
	for err, moves := range badMoves() {
		for _, m := range moves {
			a := exampleArguments()
			a.move = m
			for _, x := range resultsOf(a) {
				if x.takes("move") {
					x.wantError(t, fmt.Sprint(m), err)
				}
			}
		}
	}
}

// TestNothingIsLeft has boxes that are carried just out of the world, in one coordinate each.
func TestNothingIsLeft(t *testing.T) {
	b := boxOf(-2, 4, -1, 0, 3, 5)
	for _, m := range []api.FixMove{
		moveOf(1, 13, 14, 0, 0, 0, 0),
		moveOf(1, -15, -15, 0, 0, 0, 0),
		moveOf(3, 0, 0, 4, 5, 0, 0),
		moveOf(1, 0, 0, -12, -11, 0, 0),
		moveOf(2, 0, 0, 0, 0, 9, 9),
		moveOf(3, 0, 0, 0, 0, -4, -2),
		moveOf(1000, 100, 100, 100, 100, 100, 100),
	} {
		to, e := fix.Carried(exampleNet(), b, m)
		want(t, fmt.Sprint("Carried by ", m), to, e, api.FixBox{}, api.ErrNone)
		to, e = fix.CarriedBack(exampleNet(), b, opposite(m))
		want(t, fmt.Sprint("CarriedBack by the opposite of ", m), to, e, api.FixBox{}, api.ErrNone)
	}
}

// opposite is the move whose speeds are those of another one with the other sign.
func opposite(m api.FixMove) api.FixMove {
	x, y, z := m.Speed.X, m.Speed.Y, m.Speed.Z
	return moveOf(m.Ticks, -x.Hi, -x.Lo, -y.Hi, -y.Lo, -z.Hi, -z.Lo)
}

// leads is whether a position can come to another one by a move.
func leads(m api.FixMove, p, q api.FixPlace) bool {
	for i, speed := range spansOf(m.Speed) {
		by := numbersOf(q)[i] - numbersOf(p)[i]
		if by < m.Ticks*speed.Lo || by > m.Ticks*speed.Hi {
			return false
		}
	}
	return true
}

// reached are the positions of a box to which some position of another one can come.
func reached(in, from api.FixBox, m api.FixMove) []api.FixPlace {
	return those(allIn(in), func(q api.FixPlace) bool {
		return len(those(allIn(from), func(p api.FixPlace) bool { return leads(m, p, q) })) > 0
	})
}

// reaching are the positions of a box that can come to some position of another one.
func reaching(in, to api.FixBox, m api.FixMove) []api.FixPlace {
	return those(allIn(in), func(p api.FixPlace) bool {
		return len(those(allIn(to), func(q api.FixPlace) bool { return leads(m, p, q) })) > 0
	})
}

// TestCarriedPositions carries position by position: a box has all that can be reached, and no others.
func TestCarriedPositions(t *testing.T) {
	r := newRandom()
	for range 300 {
		n := randomNet(r, 4)
		b, m := randomBox(r, n.World), randomMove(r)
		for _, c := range []struct {
			name   string
			got    func(n api.FixNet, b api.FixBox, m api.FixMove) (api.FixBox, api.Errno)
			places func(in, other api.FixBox, m api.FixMove) []api.FixPlace
		}{
			{"Carried", fix.Carried, reached},
			{"CarriedBack", fix.CarriedBack, reaching},
		} {
			places := c.places(n.World, b, m)
			wanted, err := around(places)
			got, e := c.got(n, b, m)
			want(t, fmt.Sprint(c.name, " of ", n, b, m), got, e, wanted, err)
			if e == api.OK && len(places) != len(allIn(got)) {
				t.Fatalf("%s of %v, %v, %v has %v, but not all of it", c.name, n, b, m, got)
			}
		}
	}
}

// TestDeadReckoning moves positions tick by tick, each with a speed of its own.
func TestDeadReckoning(t *testing.T) {
	r := newRandom()
	for range 2000 {
		n := randomNet(r, 9)
		b, m := randomBox(r, n.World), randomMove(r)
		p, ok := movedTo(r, n, randomPlace(r, b), m)
		if !ok {
			continue
		}
		if to, e := fix.Carried(n, b, m); e != api.OK || !isIn(p, to) {
			t.Fatalf("%v is not in %v, error %d: that is %v carried by %v", p, to, e, b, m)
		}
		m.Ticks = 0
		to, e := fix.Carried(n, b, m)
		want(t, "Carried without ticks", to, e, b, api.OK)
		to, e = fix.CarriedBack(n, b, m)
		want(t, "CarriedBack without ticks", to, e, b, api.OK)
	}
}
