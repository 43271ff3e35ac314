package fix_test

import (
	"fmt"
	"math"
	"testing"

	"moonpool/api"
	"moonpool/fix"
)

// P5.1

func worldOf(ends ...int) api.FixNet { return api.FixNet{World: boxOf(ends...)} }

func beaconsOf(l ...api.FixBeacon) api.FixNet {
	n := exampleNet()
	n.Beacons = l
	return n
}

func TestCheckNet(t *testing.T) {
	far := api.FixBeacon{Name: "far", Place: placeOf(10000, -10000, -10000)}
	for i, n := range []api.FixNet{
		{},
		exampleNet(),
		greatNet(),
		worldOf(-10000, -10000, 10000, 10000, 10000, 10000),
		beaconsOf(far, api.FixBeacon{Name: "A-0123456789"}, api.FixBeacon{Name: "Far"}),
		beaconsOf(manyBeacons(6)...),
	} {
		at, e := fix.CheckNet(n)
		want(t, fmt.Sprintf("CheckNet of net %d", i), at, e, 0, api.OK)
	}
}

func manyBeacons(count int) []api.FixBeacon {
	l := make([]api.FixBeacon, count)
	for i := range l {
		l[i].Name = fmt.Sprintf("b%d", i)
	}
	return l
}

// badNet is a net that CheckNet refuses, with the index and the error.
type badNet struct {
	name  string
	net   api.FixNet
	index int
	err   api.Errno
}

func badWorlds() []badNet {
	many := worldOf(1, 0, 0, 0, 0, 0)
	many.Beacons = make([]api.FixBeacon, 7)
	return []badNet{
		{"X from -10001", worldOf(-10001, 0, 0, 0, 0, 0), 0, api.ErrRange},
		{"X to 10001", worldOf(0, 10001, 0, 0, 0, 0), 0, api.ErrRange},
		{"Y from -10001", worldOf(0, 0, -10001, 0, 0, 0), 0, api.ErrRange},
		{"Y to 10001", worldOf(0, 0, 0, 10001, 0, 0), 0, api.ErrRange},
		{"Z from -1", worldOf(0, 0, 0, 0, -1, 0), 0, api.ErrRange},
		{"Z to 10001", worldOf(0, 0, 0, 0, 0, 10001), 0, api.ErrRange},
		{"Z from 10001", worldOf(0, 0, 0, 0, 10001, 10001), 0, api.ErrRange},
		{"Z from 10001 to 10000", worldOf(0, 0, 0, 0, 10001, 10000), 0, api.ErrRange},
		{"the least int", worldOf(math.MinInt, 0, 0, 0, 0, 0), 0, api.ErrRange},
		{"the greatest int", worldOf(0, 0, 0, math.MaxInt, 0, 0), 0, api.ErrRange},
		{"X in the wrong order", worldOf(1, 0, 0, 0, 0, 0), 0, api.ErrOrder},
		{"Y in the wrong order", worldOf(0, 0, -1, -2, 0, 0), 0, api.ErrOrder},
		{"Z in the wrong order", worldOf(0, 0, 0, 0, 10000, 0), 0, api.ErrOrder},
		{"the range of Z before the order of X", worldOf(1, 0, 0, 0, 0, 10001), 0, api.ErrRange},
		{"order before many beacons", many, 0, api.ErrOrder},
	}
}

func badNets() []badNet {
	ok, other := api.FixBeacon{Name: "ok"}, api.FixBeacon{Name: "other"}
	at := func(x, y, z int) api.FixBeacon { return api.FixBeacon{Name: "at", Place: placeOf(x, y, z)} }
	return append(badWorlds(),
		badNet{"seven beacons", beaconsOf(manyBeacons(7)...), 0, api.ErrLarge},
		badNet{"seven before names", beaconsOf(make([]api.FixBeacon, 7)...), 0, api.ErrLarge},
		badNet{"no name", beaconsOf(ok, api.FixBeacon{}), 1, api.ErrName},
		badNet{"a name of 13", beaconsOf(api.FixBeacon{Name: "a123456789-12"}), 0, api.ErrName},
		badNet{"a name that begins with a digit", beaconsOf(ok, other, api.FixBeacon{Name: "1a"}), 2, api.ErrName},
		badNet{"a name with a blank", beaconsOf(api.FixBeacon{Name: "a b"}), 0, api.ErrName},
		badNet{"a name that exists", beaconsOf(ok, other, ok), 2, api.ErrExists},
		badNet{"a name that exists before its place", beaconsOf(at(0, 0, 0), at(10001, 0, 0)), 1, api.ErrExists},
		badNet{"a name before its place", beaconsOf(api.FixBeacon{Name: "", Place: placeOf(10001, 0, 0)}), 0, api.ErrName},
		badNet{"X 10001", beaconsOf(ok, at(10001, 0, 0)), 1, api.ErrRange},
		badNet{"X -10001", beaconsOf(ok, at(-10001, 0, 0)), 1, api.ErrRange},
		badNet{"Y 10001", beaconsOf(at(0, 10001, 0)), 0, api.ErrRange},
		badNet{"Y -10001", beaconsOf(at(0, -10001, 0)), 0, api.ErrRange},
		badNet{"Z 10001", beaconsOf(at(0, 0, 10001)), 0, api.ErrRange},
		badNet{"Z -10001", beaconsOf(at(0, 0, -10001)), 0, api.ErrRange},
		badNet{"Z of the least int", beaconsOf(at(0, 0, math.MinInt)), 0, api.ErrRange},
		badNet{"an earlier beacon first", beaconsOf(at(0, 0, 10001), api.FixBeacon{}), 0, api.ErrRange},
	)
}

// TestBadNets calls all functions of a net, which all return its error, but not its index.
func TestBadNets(t *testing.T) {
	for _, c := range badNets() {
		i, e := fix.CheckNet(c.net)
		want(t, "CheckNet: "+c.name, i, e, c.index, c.err)
		a := exampleArguments()
		a.net = c.net
		for _, x := range resultsOf(a) {
			if x.name != "CheckNet" && x.takes("net") {
				x.wantError(t, c.name, c.err)
			}
		}
	}
}

func TestCheckBox(t *testing.T) {
	small := worldOf(-3, 2, 5, 5, 0, 7)
	for _, c := range []struct {
		name string
		net  api.FixNet
		box  api.FixBox
		err  api.Errno
	}{
		{"example", exampleNet(), exampleBox(), api.OK},
		{"the world", small, small.World, api.OK},
		{"the greatest world", greatNet(), greatNet().World, api.OK},
		{"one position", small, boxOf(-3, -3, 5, 5, 7, 7), api.OK},
		{"X in the wrong order", small, boxOf(1, 0, 5, 5, 0, 0), api.ErrOrder},
		{"Y in the wrong order", small, boxOf(0, 0, 5, 4, 0, 0), api.ErrOrder},
		{"Z in the wrong order", small, boxOf(0, 0, 5, 5, 7, 6), api.ErrOrder},
		{"the order of Z before the range of X", small, boxOf(-4, 0, 5, 5, 7, 6), api.ErrOrder},
		{"the least int and the greatest one", small, boxOf(math.MaxInt, math.MinInt, 5, 5, 0, 0), api.ErrOrder},
		{"X from below", small, boxOf(-4, 0, 5, 5, 0, 0), api.ErrRange},
		{"X to above", small, boxOf(0, 3, 5, 5, 0, 0), api.ErrRange},
		{"Y from below", small, boxOf(0, 0, 4, 5, 0, 0), api.ErrRange},
		{"Y to above", small, boxOf(0, 0, 5, 6, 0, 0), api.ErrRange},
		{"Z from below", small, boxOf(0, 0, 5, 5, -1, 0), api.ErrRange},
		{"Z to above", small, boxOf(0, 0, 5, 5, 0, 8), api.ErrRange},
		{"outside of it", small, boxOf(3, 9, 6, 9, 8, 9), api.ErrRange},
		{"around it", small, boxOf(-4, 3, 4, 6, -1, 8), api.ErrRange},
		{"all numbers", small, boxOf(math.MinInt, math.MaxInt, 5, 5, 0, 0), api.ErrRange},
		{"the net before the box", worldOf(1, 0, 0, 0, 0, 10001), boxOf(1, 0, 0, 0, 0, 0), api.ErrRange},
	} {
		want(t, "CheckBox: "+c.name, nil, fix.CheckBox(c.net, c.box), nil, c.err)
	}
}

// TestBadBoxes calls all functions of a box.
func TestBadBoxes(t *testing.T) {
	for _, c := range []struct {
		box api.FixBox
		err api.Errno
	}{
		{boxOf(1, 0, 0, 0, 0, 0), api.ErrOrder},
		{boxOf(0, 0, 0, 0, 0, 21), api.ErrRange},
		{boxOf(math.MinInt, math.MaxInt, 0, 0, 0, 0), api.ErrRange},
	} {
		a := exampleArguments()
		a.box = c.box
		for _, x := range resultsOf(a) {
			if x.takes("box") {
				x.wantError(t, fix.FormatBox(c.box), c.err)
			}
		}
	}
}
