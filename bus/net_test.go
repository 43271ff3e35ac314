package bus_test

import (
	"fmt"
	"math"
	"slices"
	"testing"

	"moonpool/api"
	"moonpool/bus"
)

// P7.6

// badNet is a net that CheckNet refuses, with the index and the error.
type badNet struct {
	name  string
	net   api.BusNet
	index int
	err   api.Errno
}

// changed is the example's net with a change.
func changed(change func(n *api.BusNet)) api.BusNet {
	n := exampleNet()
	change(&n)
	return n
}

func badSizes() []badNet {
	ten := []string{"a", "b", "c", "d", "e", "f", "g", "h", "i", "j"}
	eleven := append(slices.Clone(ten), "k")
	return []badNet{
		{"nothing", api.BusNet{}, 0, api.ErrShape},
		{"no parts", changed(func(n *api.BusNet) { n.Parts = nil }), 0, api.ErrShape},
		{"no parts before too many modes", changed(func(n *api.BusNet) { n.Parts, n.Modes = nil, make([]api.BusMode, 7) }), 0, api.ErrShape},
		{"11 parts", changed(func(n *api.BusNet) { n.Parts = eleven }), 0, api.ErrLarge},
		{"11 functions", changed(func(n *api.BusNet) { n.Functions = make([]api.BusFunction, 11) }), 0, api.ErrLarge},
		{"7 modes", changed(func(n *api.BusNet) { n.Modes = make([]api.BusMode, 7) }), 0, api.ErrLarge},
		{"7 modes before the name of a part", changed(func(n *api.BusNet) { n.Parts[1], n.Modes = "", make([]api.BusMode, 7) }), 0, api.ErrLarge},
		{"11 functions before the name of a part", changed(func(n *api.BusNet) { n.Parts[1], n.Functions = "", make([]api.BusFunction, 11) }), 0, api.ErrLarge},
		{"10 parts, functions and 6 modes without names", api.BusNet{Parts: ten, Functions: make([]api.BusFunction, 10), Modes: make([]api.BusMode, 6)}, 0, api.ErrName},
	}
}

func badParts() []badNet {
	return []badNet{
		{"a part without a name", changed(func(n *api.BusNet) { n.Parts[1] = "" }), 1, api.ErrName},
		{"a part with a long name", changed(func(n *api.BusNet) { n.Parts[3] = "abcdefghijklm" }), 3, api.ErrName},
		{"a part with a sign in its name", changed(func(n *api.BusNet) { n.Parts[0] = "a+b" }), 0, api.ErrName},
		{"a part twice", changed(func(n *api.BusNet) { n.Parts[2] = "main" }), 2, api.ErrExists},
		{"parts in their order", changed(func(n *api.BusNet) { n.Parts[1], n.Parts[2] = "main", "" }), 1, api.ErrExists},
		{"a part before functions", changed(func(n *api.BusNet) { n.Parts[3], n.Functions[0].Name = "", "" }), 3, api.ErrName},
	}
}

func badFunctions() []badNet {
	with := func(i int, f api.BusFunction) api.BusNet {
		return changed(func(n *api.BusNet) { n.Functions[i] = f })
	}
	seven := slices.Repeat([][]int{{0}}, 7)
	return []badNet{
		{"a function without a name", with(2, functionOf("", []int{3})), 2, api.ErrName},
		{"a function twice", with(2, functionOf("power", []int{3})), 2, api.ErrExists},
		{"the name before the ways", with(1, functionOf("-")), 1, api.ErrName},
		{"a function twice before the ways", with(1, functionOf("power")), 1, api.ErrExists},
		{"a function without ways", with(1, functionOf("x")), 1, api.ErrShape},
		{"7 ways", with(2, functionOf("x", seven...)), 2, api.ErrLarge},
		{"7 ways before their parts", with(2, functionOf("x", make([][]int, 7)...)), 2, api.ErrLarge},
		{"a way without parts", with(0, functionOf("x", []int{0}, []int{})), 0, api.ErrShape},
		{"a nil way", with(0, functionOf("x", nil)), 0, api.ErrShape},
		{"a part that there is not", with(1, functionOf("x", []int{0, 4})), 1, api.ErrMissing},
		{"the part -1", with(1, functionOf("x", []int{-1, 0})), 1, api.ErrMissing},
		{"the greatest part", with(1, functionOf("x", []int{math.MaxInt})), 1, api.ErrMissing},
		{"the least part", with(1, functionOf("x", []int{math.MinInt})), 1, api.ErrMissing},
		{"a part twice in a way", with(2, functionOf("x", []int{1, 1})), 2, api.ErrOrder},
		{"parts in the wrong order", with(2, functionOf("x", []int{0, 2, 1})), 2, api.ErrOrder},
		{"missing before order in one part", with(2, functionOf("x", []int{2, -1})), 2, api.ErrMissing},
		{"order before missing in the next part", with(2, functionOf("x", []int{2, 1, 4})), 2, api.ErrOrder},
		{"ways in their order", with(2, functionOf("x", []int{2, 1}, nil, []int{4})), 2, api.ErrOrder},
		{"a way of many parts", with(0, functionOf("x", []int{0, 1, 2, 3, 4, 5, 6, 7, 8, 9, 10})), 0, api.ErrMissing},
		{"functions in their order", changed(func(n *api.BusNet) { n.Functions[1].Ways, n.Functions[2].Name = nil, "" }), 1, api.ErrShape},
		{"a function before modes", changed(func(n *api.BusNet) { n.Functions[2].Ways, n.Modes[0].Name = nil, "" }), 2, api.ErrShape},
	}
}

func badModes() []badNet {
	with := func(i int, m api.BusMode) api.BusNet {
		return changed(func(n *api.BusNet) { n.Modes[i] = m })
	}
	return []badNet{
		{"a mode without a name", with(2, modeOf("", 0)), 2, api.ErrName},
		{"a mode twice", with(1, modeOf("full", 0)), 1, api.ErrExists},
		{"the name before the functions", with(0, modeOf("a b", 3)), 0, api.ErrName},
		{"a mode twice before the functions", with(2, modeOf("slow", 3)), 2, api.ErrExists},
		{"a function that there is not", with(1, modeOf("x", 0, 3)), 1, api.ErrMissing},
		{"the function -1", with(1, modeOf("x", -1)), 1, api.ErrMissing},
		{"the least function", with(1, modeOf("x", math.MinInt)), 1, api.ErrMissing},
		{"a function twice in a mode", with(1, modeOf("x", 2, 2)), 1, api.ErrOrder},
		{"functions in the wrong order", with(1, modeOf("x", 1, 0)), 1, api.ErrOrder},
		{"missing before order in one function", with(2, modeOf("x", 2, -1)), 2, api.ErrMissing},
		{"order before missing in the next function", with(2, modeOf("x", 1, 0, 3)), 2, api.ErrOrder},
		{"modes in their order", changed(func(n *api.BusNet) { n.Modes[1].Needs, n.Modes[2].Name = []int{3}, "" }), 1, api.ErrMissing},
		{"a mode that needs a part, without functions", api.BusNet{Parts: []string{"a"}, Modes: []api.BusMode{modeOf("x", 0)}}, 0, api.ErrMissing},
	}
}

func badNets() []badNet { return slices.Concat(badSizes(), badParts(), badFunctions(), badModes()) }

// greatNet has as many parts, functions, ways and modes as there may be.
func greatNet() api.BusNet {
	var n api.BusNet
	for i := range 10 {
		name := fmt.Sprint("A123456789-", i)
		n.Parts = append(n.Parts, name)
		n.Functions = append(n.Functions, functionOf(name, slices.Repeat([][]int{upTo(0, 9)}, 6)...))
	}
	for i := range 6 {
		n.Modes = append(n.Modes, modeOf(fmt.Sprint("A123456789-", i), upTo(0, 9)...))
	}
	return n
}

func TestCheckNet(t *testing.T) {
	for _, n := range []api.BusNet{
		exampleNet(),
		greatNet(),
		{Parts: []string{"a"}},
		{Parts: []string{"a"}, Modes: []api.BusMode{modeOf("a")}},
		{Parts: []string{"a"}, Functions: []api.BusFunction{functionOf("a", []int{0}, []int{0})}},
		{Parts: []string{"a", "A"}, Functions: []api.BusFunction{functionOf("a", []int{0, 1})}, Modes: []api.BusMode{modeOf("a", 0), modeOf("A")}},
	} {
		i, e := bus.CheckNet(n)
		want(t, fmt.Sprint("CheckNet of ", n), i, e, 0, api.OK)
	}
	for _, c := range badNets() {
		i, e := bus.CheckNet(c.net)
		want(t, "CheckNet: "+c.name, i, e, c.index, c.err)
	}
}

// TestBadNets calls all functions of nets.
func TestBadNets(t *testing.T) {
	for _, c := range badNets() {
		a := exampleArguments()
		a.net = c.net
		for _, x := range resultsOf(a) {
			if x.takes("net") && x.name != "CheckNet" {
				x.wantError(t, c.name, c.err)
			}
		}
	}
}
