package cable_test

import (
	"math"
	"math/rand/v2"
	"reflect"
	"testing"

	"moonpool/api"
	"moonpool/cable"
)

// want compares a result and an error. A nil slice and an empty one are the same result.
func want(t *testing.T, what string, got any, e api.Errno, wanted any, err api.Errno) {
	t.Helper()
	a, b := reflect.ValueOf(got), reflect.ValueOf(wanted)
	same := reflect.DeepEqual(got, wanted)
	if a.Kind() == reflect.Slice && b.Kind() == reflect.Slice && a.Len() == 0 && b.Len() == 0 {
		same = a.Type() == b.Type()
	}
	if !same || e != err {
		t.Errorf("%s: %v, error %d, want %v, error %d", what, got, e, wanted, err)
	}
}

// exampleLine is the line of the chapter's examples.
func exampleLine() api.CableLine {
	return api.CableLine{
		Load:  api.CableForce{X: 0, Z: 100},
		Links: []api.CableLink{{Height: 10, Weight: 20, Drag: 3}, {Height: 10, Weight: -20, Drag: 5}, {Height: 5}},
	}
}

func exampleCurrents() []int { return []int{4, -2, 7} }

func exampleBox() []api.Range {
	return []api.Range{{Lo: 2, Hi: 4}, {Lo: -2, Hi: 0}, {Lo: 0, Hi: 9}}
}

// slackLine is the example's line with a load of which the link 1 is slack.
func slackLine() api.CableLine {
	l := exampleLine()
	l.Load.Z = -5
	return l
}

// extremes is the greatest line and currents: every part at its limit.
func extremes() (api.CableLine, []int) {
	l := api.CableLine{Load: api.CableForce{X: api.MaxCableLoad, Z: api.MaxCableLoad}}
	var currents []int
	for range api.MaxCableLinks {
		l.Links = append(l.Links, api.CableLink{Height: api.MaxCableHeight, Weight: api.MaxCableWeight, Drag: api.MaxCableDrag})
		currents = append(currents, api.MaxCableCurrent)
	}
	return l, currents
}

func newRandom() *rand.Rand { return rand.New(rand.NewPCG(1, 2)) }

// between is a random number from low to high.
func between(r *rand.Rand, low, high int) int { return low + r.IntN(high-low+1) }

func randomRange(r *rand.Rand, low, high int) api.Range {
	a, b := between(r, low, high), between(r, low, high)
	return api.Range{Lo: min(a, b), Hi: max(a, b)}
}

// randomLine is a valid line, which may have slack links; every other line has small numbers.
func randomLine(r *rand.Rand) api.CableLine {
	load, height, weight, drag := 30, 20, 6, 4
	if r.IntN(2) == 0 {
		load, height, weight, drag = api.MaxCableLoad, api.MaxCableHeight, api.MaxCableWeight, api.MaxCableDrag
	}
	l := api.CableLine{Load: api.CableForce{X: between(r, -load, load), Z: between(r, -load, load)}}
	for range between(r, 1, api.MaxCableLinks) {
		l.Links = append(l.Links, api.CableLink{Height: between(r, 1, height), Weight: between(r, -weight, weight), Drag: between(r, 0, drag)})
	}
	return l
}

// randomTautLine is a valid line without slack links.
func randomTautLine(r *rand.Rand) api.CableLine {
	for {
		l := randomLine(r)
		if least, e := cable.LeastLoad(l); e == api.OK && l.Load.Z >= least {
			return l
		}
	}
}

func randomBox(r *rand.Rand, links int) []api.Range {
	var box []api.Range
	for range links {
		if r.IntN(2) == 0 {
			box = append(box, randomRange(r, -3, 3))
		} else {
			box = append(box, randomRange(r, -api.MaxCableCurrent, api.MaxCableCurrent))
		}
	}
	return box
}

func currentsIn(r *rand.Rand, box []api.Range) []int {
	var currents []int
	for _, x := range box {
		currents = append(currents, between(r, x.Lo, x.Hi))
	}
	return currents
}

func randomCurrents(r *rand.Rand, links int) []int { return currentsIn(r, randomBox(r, links)) }

// boxWithin is a random box within a box.
func boxWithin(r *rand.Rand, box []api.Range) []api.Range {
	var inner []api.Range
	for _, x := range box {
		inner = append(inner, randomRange(r, x.Lo, x.Hi))
	}
	return inner
}

func lies(n int, in api.Range) bool { return in.Lo <= n && n <= in.Hi }

func liesWithin(inner, outer api.Range) bool {
	return outer.Lo <= inner.Lo && inner.Lo <= inner.Hi && inner.Hi <= outer.Hi
}

// badLine is a line that CheckLine refuses, with the index and the error.
type badLine struct {
	name  string
	line  api.CableLine
	index int
	err   api.Errno
}

func badLines() []badLine {
	with := func(change func(l *api.CableLine)) api.CableLine {
		l := exampleLine()
		change(&l)
		return l
	}
	many := make([]api.CableLink, api.MaxCableLinks+1)
	return []badLine{
		{"load's X too great", with(func(l *api.CableLine) { l.Load.X = 10001 }), 0, api.ErrRange},
		{"load's X too small", with(func(l *api.CableLine) { l.Load.X = -10001 }), 0, api.ErrRange},
		{"load's Z too great", with(func(l *api.CableLine) { l.Load.Z = 10001 }), 0, api.ErrRange},
		{"load's Z too small", with(func(l *api.CableLine) { l.Load.Z = -10001 }), 0, api.ErrRange},
		{"load's X the least int", with(func(l *api.CableLine) { l.Load.X = math.MinInt }), 0, api.ErrRange},
		{"load before links", api.CableLine{Load: api.CableForce{X: 10001}}, 0, api.ErrRange},
		{"load before many links", api.CableLine{Load: api.CableForce{Z: 10001}, Links: many}, 0, api.ErrRange},
		{"no links", api.CableLine{}, 0, api.ErrShape},
		{"empty links", api.CableLine{Links: []api.CableLink{}}, 0, api.ErrShape},
		{"too many links before their errors", api.CableLine{Links: many}, 0, api.ErrLarge},
		{"height 0", with(func(l *api.CableLine) { l.Links[1].Height = 0 }), 1, api.ErrRange},
		{"height 1001", with(func(l *api.CableLine) { l.Links[2].Height = 1001 }), 2, api.ErrRange},
		{"weight 1001", with(func(l *api.CableLine) { l.Links[0].Weight = 1001 }), 0, api.ErrRange},
		{"weight -1001", with(func(l *api.CableLine) { l.Links[2].Weight = -1001 }), 2, api.ErrRange},
		{"weight the least int", with(func(l *api.CableLine) { l.Links[1].Weight = math.MinInt }), 1, api.ErrRange},
		{"drag -1", with(func(l *api.CableLine) { l.Links[1].Drag = -1 }), 1, api.ErrRange},
		{"drag 21", with(func(l *api.CableLine) { l.Links[2].Drag = 21 }), 2, api.ErrRange},
		{"two bad links", with(func(l *api.CableLine) { l.Links[2].Height, l.Links[1].Drag = 0, 21 }), 1, api.ErrRange},
	}
}
