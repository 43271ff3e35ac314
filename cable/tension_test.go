package cable_test

import (
	"math"
	"slices"
	"testing"

	"moonpool/api"
	"moonpool/cable"
)

// P1.2, P1.9, P1.11

func TestTensionsOf(t *testing.T) {
	f, e := cable.TensionsOf(exampleLine(), exampleCurrents())
	want(t, "example", f, e, []api.CableForce{{X: 12, Z: 120}, {X: 2, Z: 100}, {X: 2, Z: 100}}, api.OK)
	one := api.CableLine{Load: api.CableForce{X: -7, Z: 3}, Links: []api.CableLink{{Height: 1, Weight: -5, Drag: 2}}}
	f, e = cable.TensionsOf(one, []int{-4})
	want(t, "one link", f, e, []api.CableForce{{X: -15, Z: -2}}, api.OK)
	l, c := extremes()
	f, e = cable.TensionsOf(l, c)
	want(t, "greatest line", f[9], e, api.CableForce{X: 20000, Z: 20000}, api.OK)
}

func TestNoDragKeepsThePull(t *testing.T) {
	l := exampleLine()
	for i := range l.Links {
		l.Links[i].Drag = 0
	}
	l.Load.X = 9
	f, e := cable.TensionsOf(l, []int{50, -50, 50})
	want(t, "no drag", f, e, []api.CableForce{{X: 9, Z: 120}, {X: 9, Z: 100}, {X: 9, Z: 100}}, api.OK)
}

func TestCheckBalance(t *testing.T) {
	l, c := exampleLine(), exampleCurrents()
	for _, x := range []struct {
		name  string
		t     []api.CableForce
		index int
		err   api.Errno
	}{
		{"tensions", []api.CableForce{{X: 12, Z: 120}, {X: 2, Z: 100}, {X: 2, Z: 100}}, 0, api.OK},
		{"none", nil, 0, api.ErrShape},
		{"too few", []api.CableForce{{X: 12, Z: 120}, {X: 2, Z: 100}}, 0, api.ErrShape},
		{"too many", []api.CableForce{{X: 12, Z: 120}, {X: 2, Z: 100}, {X: 2, Z: 100}, {X: 2, Z: 100}}, 0, api.ErrShape},
		{"lowest X", []api.CableForce{{X: 13, Z: 120}, {X: 3, Z: 100}, {X: 3, Z: 100}}, 0, api.ErrProof},
		{"lowest Z", []api.CableForce{{X: 12, Z: 119}, {X: 2, Z: 99}, {X: 2, Z: 99}}, 0, api.ErrProof},
		{"middle X", []api.CableForce{{X: 12, Z: 120}, {X: 1, Z: 100}, {X: 1, Z: 100}}, 1, api.ErrProof},
		{"middle Z", []api.CableForce{{X: 12, Z: 120}, {X: 2, Z: 101}, {X: 2, Z: 100}}, 1, api.ErrProof},
		{"upper X", []api.CableForce{{X: 12, Z: 120}, {X: 2, Z: 100}, {X: 3, Z: 100}}, 2, api.ErrProof},
		{"upper Z", []api.CableForce{{X: 12, Z: 120}, {X: 2, Z: 100}, {X: 2, Z: 90}}, 2, api.ErrProof},
		{"extreme", []api.CableForce{{X: 12, Z: 120}, {X: math.MinInt, Z: math.MaxInt}, {}}, 1, api.ErrProof},
	} {
		i, e := cable.CheckBalance(l, c, x.t)
		want(t, x.name, i, e, x.index, x.err)
	}
}

func TestSlackIn(t *testing.T) {
	line := func(load int, weights ...int) api.CableLine {
		l := api.CableLine{Load: api.CableForce{X: 5, Z: load}}
		for _, w := range weights {
			l.Links = append(l.Links, api.CableLink{Height: 1, Weight: w})
		}
		return l
	}
	for _, c := range []struct {
		line  api.CableLine
		slack []int
		least int
	}{
		{exampleLine(), nil, 1},
		{line(0, 1), nil, 0},
		{line(0, 0), []int{0}, 1},
		{line(0, 20, -20, 0), []int{1, 2}, 1},
		{line(-3, 3, 1, -2, 5), []int{0, 2}, -1},
		{line(10, -4, -6, 1, -2), []int{1, 3}, 12},
		{line(4, 10, 10), nil, -9},
		{line(-10000, -1000, -1000), []int{0, 1}, 2001},
	} {
		x, e := cable.SlackIn(c.line)
		want(t, "SlackIn", x, e, c.slack, api.OK)
		n, e := cable.LeastLoad(c.line)
		want(t, "LeastLoad", n, e, c.least, api.OK)
	}
	for _, bad := range badLines() {
		x, e := cable.SlackIn(bad.line)
		want(t, "SlackIn: "+bad.name, x, e, []int(nil), bad.err)
		n, e := cable.LeastLoad(bad.line)
		want(t, "LeastLoad: "+bad.name, n, e, 0, bad.err)
	}
}

func TestLeastLoadMayExceedTheLimit(t *testing.T) {
	l, _ := extremes()
	for i := range l.Links {
		l.Links[i].Weight = -api.MaxCableWeight
	}
	n, e := cable.LeastLoad(l)
	want(t, "LeastLoad", n, e, 10001, api.OK)
}

func TestOnlyTensionsAreInBalance(t *testing.T) {
	r := newRandom()
	for range 500 {
		l := randomLine(r)
		c := randomCurrents(r, len(l.Links))
		f, e := cable.TensionsOf(l, c)
		want(t, "TensionsOf", len(f), e, len(l.Links), api.OK)
		i, e := cable.CheckBalance(l, c, f)
		want(t, "CheckBalance", i, e, 0, api.OK)
		other, at := slices.Clone(f), r.IntN(len(f))
		if r.IntN(2) == 0 {
			other[at].X += between(r, 1, 9)
		} else {
			other[at].Z -= between(r, 1, 9)
		}
		i, e = cable.CheckBalance(l, c, other)
		want(t, "CheckBalance of others", i, e, at, api.ErrProof)
	}
}

func TestLeastLoadIsLeast(t *testing.T) {
	r := newRandom()
	for range 500 {
		l := randomLine(r)
		least, e := cable.LeastLoad(l)
		if e != api.OK {
			t.Fatalf("LeastLoad: error %d", e)
		}
		if least > api.MaxCableLoad || least-1 < -api.MaxCableLoad {
			continue
		}
		l.Load.Z = least
		x, e := cable.SlackIn(l)
		want(t, "SlackIn with the least load", x, e, []int(nil), api.OK)
		l.Load.Z = least - 1
		x, e = cable.SlackIn(l)
		if e != api.OK || len(x) == 0 {
			t.Errorf("SlackIn with one less than the least load: %v, error %d", x, e)
		}
	}
}
