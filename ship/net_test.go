package ship_test

import (
	"fmt"
	"math"
	"slices"
	"testing"

	"moonpool/api"
	"moonpool/ship"
)

// P10.1

// badNet is a net that CheckNet refuses, with the index and the error.
type badNet struct {
	name  string
	net   api.ShipNet
	index int
	err   api.Errno
}

// badPeople are nets whose persons are refused.
func badPeople() []badNet {
	with := func(people ...api.ShipPerson) api.ShipNet {
		return changed(func(n *api.ShipNet) { n.People = people })
	}
	pia := personOf("pia", api.ShipPilot)
	nine := append(slices.Clone(greatNet().People), personOf("zoe", api.ShipGuest))
	return []badNet{
		{"nobody", with(), 0, api.ErrShape},
		{"nothing", api.ShipNet{}, 0, api.ErrShape},
		{"nine persons", with(nine...), 0, api.ErrLarge},
		{"nine without names", with(make([]api.ShipPerson, 9)...), 0, api.ErrLarge},
		{"eight without names", with(make([]api.ShipPerson, 8)...), 0, api.ErrName},
		{"no name", with(pia, personOf("", 0)), 1, api.ErrName},
		{"a digit first", with(personOf("1a", 0)), 0, api.ErrName},
		{"a name twice before a long one", with(pia, pia, personOf("abcdefghijklm", 0)), 1, api.ErrExists},
		{"a long name", with(personOf("abcdefghijklm", 0)), 0, api.ErrName},
		{"a blank in a name", with(personOf("a b", 0)), 0, api.ErrName},
		{"a name twice", with(pia, personOf("pim", 0), personOf("pia", 0)), 2, api.ErrExists},
		{"a name twice before its role", with(pia, personOf("pia", 4)), 1, api.ErrExists},
		{"a name before its role", with(personOf("", -1)), 0, api.ErrName},
		{"the role -1", with(pia, personOf("pim", -1)), 1, api.ErrKind},
		{"the role 4", with(pia, personOf("pim", 4)), 1, api.ErrKind},
		{"the least role", with(personOf("pim", math.MinInt)), 0, api.ErrKind},
		{"a role before the next name", with(personOf("pim", 4), personOf("", 0)), 0, api.ErrKind},
	}
}

// badParts are nets whose other parts are refused, in their order: each one has the defects of all later ones, too.
func badParts() []badNet {
	n := exampleNet()
	var all []badNet
	add := func(name string, err api.Errno, change func()) {
		change()
		copied := n
		copied.People = slices.Clone(n.People)
		all = append(all, badNet{name, copied, 0, err})
	}
	add("a state at no place", api.ErrMissing, func() { n.Begin.Place = 1 })
	add("a state with too much oil", api.ErrRange, func() { n.Begin.Place, n.Begin.Oil = 0, 10001 })
	add("a site with a great reserve", api.ErrRange, func() { n.Begin.Place, n.Site.Reserve = 1, 10001 })
	add("a site without places", api.ErrShape, func() { n.Site.Home = nil })
	add("Works is 7", api.ErrRange, func() { n.Works = 7 })
	add("Works is -1", api.ErrRange, func() { n.Works = -1 })
	add("a function without ways", api.ErrShape, func() { n.Bus.Functions = []api.BusFunction{{Name: "a"}} })
	add("a part twice", api.ErrExists, func() { n.Bus.Parts = []string{"a", "a"} })
	add("a beginning outside of the world", api.ErrRange, func() { n.Start = boxOf(0, 11, 0, 0, 0, 0) })
	add("a beginning in the wrong order", api.ErrOrder, func() { n.Start = boxOf(0, 11, 1, 0, 0, 0) })
	add("a beacon without a name", api.ErrName, func() { n.Fix.Beacons = make([]api.FixBeacon, 1) })
	add("a world in the wrong order", api.ErrOrder, func() { n.Fix.World.Z = spanOf(2, 1) })
	add("a role", api.ErrKind, func() { n.People[0].Role = 4 })
	all[len(all)-1].index = 0
	return all
}

func badNets() []badNet { return slices.Concat(badPeople(), badParts()) }

func TestCheckNet(t *testing.T) {
	for _, n := range []api.ShipNet{
		exampleNet(),
		greatNet(),
		changed(func(n *api.ShipNet) { n.People = []api.ShipPerson{personOf("A-1", api.ShipChief)} }),
		changed(func(n *api.ShipNet) { n.People = append(n.People, personOf("Pia", 0), personOf("abcdefghijkl", 1)) }),
		changed(func(n *api.ShipNet) { n.Works = 6 }),
		changed(func(n *api.ShipNet) { n.Bus.Modes, n.Bus.Functions = nil, nil }),
		changed(func(n *api.ShipNet) { n.Start = n.Fix.World }),
		changed(func(n *api.ShipNet) { n.Begin.Power = 0 }),
		changed(func(n *api.ShipNet) { n.Begin.Done = []int{0, 1} }),
	} {
		i, e := ship.CheckNet(n)
		want(t, fmt.Sprint("CheckNet of ", n), i, e, 0, api.OK)
	}
	for _, c := range badNets() {
		i, e := ship.CheckNet(c.net)
		want(t, "CheckNet: "+c.name, i, e, c.index, c.err)
	}
}

// TestBadNets calls all functions of nets, which all return their error, but not its index.
func TestBadNets(t *testing.T) {
	for _, c := range badNets() {
		a := exampleArguments()
		a.net = c.net
		a.logs[0] = make([]api.ShipEntry, 100)
		for _, x := range resultsOf(a) {
			if x.takes("no-people") && x.name != "CheckNet" {
				x.wantError(t, c.name, c.err)
			}
		}
	}
}
