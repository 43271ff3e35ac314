package cable_test

import (
	"math"
	"testing"

	"moonpool/api"
	"moonpool/cable"
)

// P1.1

func TestCheckLine(t *testing.T) {
	i, e := cable.CheckLine(exampleLine())
	want(t, "example", i, e, 0, api.OK)
	greatest, _ := extremes()
	i, e = cable.CheckLine(greatest)
	want(t, "greatest line", i, e, 0, api.OK)
	least := api.CableLine{Load: api.CableForce{X: -10000, Z: -10000}, Links: []api.CableLink{{Height: 1, Weight: -1000}}}
	i, e = cable.CheckLine(least)
	want(t, "least line", i, e, 0, api.OK)
	for _, bad := range badLines() {
		i, e := cable.CheckLine(bad.line)
		want(t, bad.name, i, e, bad.index, bad.err)
	}
}

func TestCheckBox(t *testing.T) {
	l := exampleLine()
	ok := api.Range{Lo: -50, Hi: 50}
	for _, c := range []struct {
		name  string
		box   []api.Range
		index int
		err   api.Errno
	}{
		{"example", exampleBox(), 0, api.OK},
		{"limits", []api.Range{ok, {Lo: 50, Hi: 50}, {Lo: -50, Hi: -50}}, 0, api.OK},
		{"none", nil, 0, api.ErrShape},
		{"too few", []api.Range{ok, ok}, 0, api.ErrShape},
		{"too many", []api.Range{ok, ok, ok, ok}, 0, api.ErrShape},
		{"shape before items", []api.Range{{Lo: 51, Hi: 51}}, 0, api.ErrShape},
		{"Lo too small", []api.Range{ok, {Lo: -51, Hi: 0}, ok}, 1, api.ErrRange},
		{"Lo the least int", []api.Range{{Lo: math.MinInt, Hi: 0}, ok, ok}, 0, api.ErrRange},
		{"Hi too great", []api.Range{ok, ok, {Lo: 0, Hi: 51}}, 2, api.ErrRange},
		{"order", []api.Range{ok, {Lo: 1, Hi: 0}, ok}, 1, api.ErrOrder},
		{"range before order", []api.Range{{Lo: 51, Hi: 0}, ok, ok}, 0, api.ErrRange},
		{"items in their order", []api.Range{ok, {Lo: 1, Hi: 0}, {Lo: 51, Hi: 51}}, 1, api.ErrOrder},
	} {
		i, e := cable.CheckBox(l, c.box)
		want(t, c.name, i, e, c.index, c.err)
	}
	for _, bad := range badLines() {
		i, e := cable.CheckBox(bad.line, []api.Range{{Lo: 1, Hi: 0}})
		want(t, bad.name, i, e, bad.index, bad.err)
	}
}

// callOfCurrents is a function of a line and currents: whether its results are their zero values, and its error.
type callOfCurrents struct {
	name string
	call func(l api.CableLine, currents []int) (bool, api.Errno)
	// taut is whether it returns the error of slack.
	taut bool
}

func callsOfCurrents() []callOfCurrents {
	return []callOfCurrents{
		{"TensionsOf", func(l api.CableLine, c []int) (bool, api.Errno) {
			x, e := cable.TensionsOf(l, c)
			return len(x) == 0, e
		}, false},
		{"CheckBalance", func(l api.CableLine, c []int) (bool, api.Errno) {
			i, e := cable.CheckBalance(l, c, nil)
			return i == 0, e
		}, false},
		{"StrongestIn", func(l api.CableLine, c []int) (bool, api.Errno) {
			i, n, e := cable.StrongestIn(l, c)
			return i == 0 && n == 0, e
		}, false},
		{"BrokenIn", func(l api.CableLine, c []int) (bool, api.Errno) {
			x, e := cable.BrokenIn(l, c, nil)
			return len(x) == 0, e
		}, false},
		{"OffsetsOf", func(l api.CableLine, c []int) (bool, api.Errno) {
			x, e := cable.OffsetsOf(l, c)
			return len(x) == 0, e
		}, true},
		{"LaybackOf", func(l api.CableLine, c []int) (bool, api.Errno) {
			x, e := cable.LaybackOf(l, c)
			return x == api.Range{}, e
		}, true},
		{"LengthOf", func(l api.CableLine, c []int) (bool, api.Errno) {
			x, e := cable.LengthOf(l, c)
			return x == api.Range{}, e
		}, true},
		{"BendsOf", func(l api.CableLine, c []int) (bool, api.Errno) {
			x, e := cable.BendsOf(l, c)
			return len(x) == 0, e
		}, true},
		{"SharpestIn", func(l api.CableLine, c []int) (bool, api.Errno) {
			i, x, e := cable.SharpestIn(l, c)
			return i == 0 && x == api.Frac{}, e
		}, true},
	}
}

func TestErrorsOfCurrents(t *testing.T) {
	wrong := []struct {
		name     string
		currents []int
		err      api.Errno
	}{
		{"none", nil, api.ErrShape},
		{"too few", []int{0, 0}, api.ErrShape},
		{"too many", []int{0, 0, 0, 0}, api.ErrShape},
		{"shape before items", []int{51}, api.ErrShape},
		{"too great", []int{0, 0, 51}, api.ErrRange},
		{"too small", []int{-51, 0, 0}, api.ErrRange},
		{"the least int", []int{0, math.MinInt, 0}, api.ErrRange},
	}
	for _, f := range callsOfCurrents() {
		for _, bad := range badLines() {
			zero, e := f.call(bad.line, nil)
			want(t, f.name+" of a line with "+bad.name, zero, e, true, bad.err)
		}
		for _, c := range wrong {
			zero, e := f.call(exampleLine(), c.currents)
			want(t, f.name+" of currents: "+c.name, zero, e, true, c.err)
			zero, e = f.call(slackLine(), c.currents)
			want(t, f.name+" of a slack line and currents: "+c.name, zero, e, true, c.err)
		}
		if f.taut {
			zero, e := f.call(slackLine(), exampleCurrents())
			want(t, f.name+" of a slack line", zero, e, true, api.ErrOpen)
		}
	}
}

func TestNoErrorOfSlack(t *testing.T) {
	l, c, b := slackLine(), exampleCurrents(), exampleBox()
	f, e := cable.TensionsOf(l, c)
	want(t, "TensionsOf", f, e, []api.CableForce{{X: 12, Z: 15}, {X: 2, Z: -5}, {X: 2, Z: -5}}, api.OK)
	i, e := cable.CheckBalance(l, c, f)
	want(t, "CheckBalance", i, e, 0, api.OK)
	i, n, e := cable.StrongestIn(l, c)
	want(t, "StrongestIn", [2]int{i, n}, e, [2]int{0, 369}, api.OK)
	x, e := cable.BrokenIn(l, c, []int{100, 5, 6})
	want(t, "BrokenIn", x, e, []int{1}, api.OK)
	p, e := cable.PullsIn(l, b)
	want(t, "PullsIn", p, e, []api.Range{{Lo: 6, Hi: 12}, {Lo: -4, Hi: 12}, {Lo: -4, Hi: 12}}, api.OK)
	p, e = cable.SquaresIn(l, b)
	want(t, "SquaresIn", p, e, []api.Range{{Lo: 261, Hi: 369}, {Lo: 25, Hi: 169}, {Lo: 25, Hi: 169}}, api.OK)
	x, e = cable.ContradictionOf(l, b, []api.CableReading{{Link: 0, X: api.Range{Lo: 13, Hi: 13}}})
	want(t, "ContradictionOf", x, e, []int{0}, api.OK)
}

// callOfBox is a function of a line and a box: whether its results are their zero values, and its error.
type callOfBox struct {
	name string
	call func(l api.CableLine, b []api.Range) (bool, api.Errno)
	// taut is whether it returns the error of slack.
	taut bool
}

func callsOfBoxes() []callOfBox {
	bad := []api.CableReading{{Link: -1}}
	return []callOfBox{
		{"PullsIn", func(l api.CableLine, b []api.Range) (bool, api.Errno) {
			x, e := cable.PullsIn(l, b)
			return len(x) == 0, e
		}, false},
		{"SquaresIn", func(l api.CableLine, b []api.Range) (bool, api.Errno) {
			x, e := cable.SquaresIn(l, b)
			return len(x) == 0, e
		}, false},
		{"ContradictionOf", func(l api.CableLine, b []api.Range) (bool, api.Errno) {
			x, e := cable.ContradictionOf(l, b, bad)
			return len(x) == 0, e
		}, false},
		{"CheckContradiction", func(l api.CableLine, b []api.Range) (bool, api.Errno) {
			n, e := cable.CheckContradiction(l, b, bad, nil)
			return n == 0, e
		}, false},
		{"LaybackIn", func(l api.CableLine, b []api.Range) (bool, api.Errno) {
			x, e := cable.LaybackIn(l, b)
			return x == api.Range{}, e
		}, true},
		{"EnoughFor", func(l api.CableLine, b []api.Range) (bool, api.Errno) {
			n, e := cable.EnoughFor(l, b)
			return n == 0, e
		}, true},
	}
}

func TestErrorsOfBoxes(t *testing.T) {
	for _, f := range callsOfBoxes() {
		for _, bad := range badLines() {
			zero, e := f.call(bad.line, nil)
			want(t, f.name+" of a line with "+bad.name, zero, e, true, bad.err)
		}
		for _, l := range []api.CableLine{exampleLine(), slackLine()} {
			zero, e := f.call(l, exampleBox()[1:])
			want(t, f.name+" of too few ranges", zero, e, true, api.ErrShape)
			zero, e = f.call(l, []api.Range{{}, {Lo: 0, Hi: 51}, {Lo: 1, Hi: 0}})
			want(t, f.name+" of too great a range", zero, e, true, api.ErrRange)
			zero, e = f.call(l, []api.Range{{}, {Lo: 1, Hi: 0}, {Lo: 0, Hi: 51}})
			want(t, f.name+" of a range in the wrong order", zero, e, true, api.ErrOrder)
		}
		if f.taut {
			zero, e := f.call(slackLine(), exampleBox())
			want(t, f.name+" of a slack line", zero, e, true, api.ErrOpen)
		}
	}
}
