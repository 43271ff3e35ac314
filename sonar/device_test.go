package sonar_test

import (
	"math"
	"slices"
	"testing"

	"moonpool/api"
	"moonpool/sonar"
)

// P4.1

// badDevices are devices that CheckDevices refuses, with the index and the error.
type badDevices struct {
	name    string
	devices []api.SonarDevice
	index   int
	err     api.Errno
}

func allBadDevices() []badDevices {
	with := func(i int, change func(d *api.SonarDevice)) []api.SonarDevice {
		l := exampleDevices()
		change(&l[i])
		return l
	}
	many := slices.Repeat(exampleDevices(), 2)
	return []badDevices{
		{"none", nil, 0, api.ErrShape},
		{"an empty list", []api.SonarDevice{}, 0, api.ErrShape},
		{"six", many, 0, api.ErrLarge},
		{"six before items", make([]api.SonarDevice, 6), 0, api.ErrLarge},
		{"Band -1", with(1, func(d *api.SonarDevice) { d.Band = -1 }), 1, api.ErrRange},
		{"Band 21", with(2, func(d *api.SonarDevice) { d.Band = 21 }), 2, api.ErrRange},
		{"Send 0", with(0, func(d *api.SonarDevice) { d.Send = 0 }), 0, api.ErrRange},
		{"Send 11", with(1, func(d *api.SonarDevice) { d.Send = 11 }), 1, api.ErrRange},
		{"Listen -1", with(2, func(d *api.SonarDevice) { d.Listen = -1 }), 2, api.ErrRange},
		{"Listen 11", with(1, func(d *api.SonarDevice) { d.Listen = 11 }), 1, api.ErrRange},
		{"the least int", with(1, func(d *api.SonarDevice) { d.Band = math.MinInt }), 1, api.ErrRange},
		{"the greatest int", with(1, func(d *api.SonarDevice) { d.Send = math.MaxInt }), 1, api.ErrRange},
		{"the first of two", []api.SonarDevice{{Send: 1}, {Band: 21}, {}}, 1, api.ErrRange},
	}
}

func TestCheckDevices(t *testing.T) {
	for _, l := range [][]api.SonarDevice{
		exampleDevices(),
		{{Send: 1}},
		{{Band: 20, Send: 10, Listen: 10}},
		{{Send: 2, Listen: 3}, {Send: 2, Listen: 3}, {Send: 2, Listen: 3}, {Send: 2, Listen: 3}, {Send: 1, Listen: 10}},
	} {
		i, e := sonar.CheckDevices(l)
		want(t, "CheckDevices", i, e, 0, api.OK)
	}
	for _, c := range allBadDevices() {
		i, e := sonar.CheckDevices(c.devices)
		want(t, "CheckDevices: "+c.name, i, e, c.index, c.err)
		p, e := sonar.BlindIn(c.devices, api.SonarTurns{Cycle: 41})
		want(t, "BlindIn: "+c.name, p, e, [2]int{}, c.err)
		x, e := sonar.FirstTurns(c.devices, 41)
		want(t, "FirstTurns: "+c.name, x, e, api.SonarTurns{}, c.err)
		x, e = sonar.ShortestTurns(c.devices)
		want(t, "ShortestTurns: "+c.name, x, e, api.SonarTurns{}, c.err)
		l, n, e := sonar.BoundOf(c.devices)
		want(t, "the set of BoundOf: "+c.name, l, e, []int{}, c.err)
		want(t, "BoundOf: "+c.name, n, e, 0, c.err)
	}
}

// turnsOf are turns with these starts.
func turnsOf(cycle int, starts ...int) api.SonarTurns {
	return api.SonarTurns{Cycle: cycle, Starts: starts}
}

func TestBlindIn(t *testing.T) {
	one := []api.SonarDevice{{Band: 3, Send: 2, Listen: 3}}
	far := []api.SonarDevice{{Band: 3, Send: 2, Listen: 3}, {Band: 5, Send: 2, Listen: 3}}
	near := []api.SonarDevice{{Band: 3, Send: 2, Listen: 3}, {Band: 4, Send: 2}}
	same := []api.SonarDevice{{Band: 20, Send: 2, Listen: 3}, {Band: 20, Send: 2}}
	long := []api.SonarDevice{{Send: 1}, {Band: 9, Send: 2, Listen: 3}, {Band: 1, Send: 1}}
	for _, c := range []struct {
		name    string
		devices []api.SonarDevice
		turns   api.SonarTurns
		pair    [2]int
		err     api.Errno
	}{
		{"example", exampleDevices(), turnsOf(9, 0, 4, 0), [2]int{0, 1}, api.OK},
		{"example that is clear", exampleDevices(), turnsOf(9, 0, 5, 0), [2]int{}, api.ErrNone},
		{"itself before others", exampleDevices(), turnsOf(4, 0, 0, 0), [2]int{0, 0}, api.OK},
		{"a later one itself", exampleDevices(), turnsOf(3, 0, 0, 0), [2]int{0, 0}, api.OK},
		{"one as long as the cycle", one, turnsOf(5, 3), [2]int{}, api.ErrNone},
		{"one longer than the cycle", one, turnsOf(4, 3), [2]int{0, 0}, api.OK},
		{"bands that differ by 2", far, turnsOf(5, 1, 1), [2]int{}, api.ErrNone},
		{"bands that differ by 2, too short for both", far, turnsOf(1, 0, 0), [2]int{0, 0}, api.OK},
		{"bands that differ by 1", near, turnsOf(7, 0, 4), [2]int{0, 1}, api.OK},
		{"bands that differ by 1, one after the other", near, turnsOf(7, 0, 5), [2]int{}, api.ErrNone},
		{"the same band", same, turnsOf(7, 0, 4), [2]int{0, 1}, api.OK},
		{"the window of the next cycle", near, turnsOf(7, 2, 1), [2]int{0, 1}, api.OK},
		{"the window goes on in the next cycle", near, turnsOf(7, 3, 0), [2]int{0, 1}, api.OK},
		{"just after the window of the last cycle", near, turnsOf(7, 3, 1), [2]int{}, api.ErrNone},
		{"inside another window", near, turnsOf(20, 3, 5), [2]int{0, 1}, api.OK},
		{"around another window", near, turnsOf(20, 5, 4), [2]int{0, 1}, api.OK},
		{"a pair before a later one itself", long, turnsOf(4, 2, 0, 2), [2]int{0, 2}, api.OK},
		{"a later one itself alone", long, turnsOf(4, 2, 0, 3), [2]int{1, 1}, api.OK},
		{"cycle 0", one, turnsOf(0, 0), [2]int{}, api.ErrRange},
		{"cycle -1", one, turnsOf(-1, 0), [2]int{}, api.ErrRange},
		{"cycle 40", one, turnsOf(40, 39), [2]int{}, api.ErrNone},
		{"cycle 41", one, turnsOf(41, 0), [2]int{}, api.ErrRange},
		{"cycle before shape", one, turnsOf(41), [2]int{}, api.ErrRange},
		{"no starts", one, turnsOf(5), [2]int{}, api.ErrShape},
		{"too many starts", one, turnsOf(5, 0, 0), [2]int{}, api.ErrShape},
		{"shape before starts", one, turnsOf(5, 5, 0), [2]int{}, api.ErrShape},
		{"a start of -1", near, turnsOf(7, 0, -1), [2]int{}, api.ErrRange},
		{"a start of the cycle", near, turnsOf(7, 7, 0), [2]int{}, api.ErrRange},
		{"the least int as a start", near, turnsOf(7, 0, math.MinInt), [2]int{}, api.ErrRange},
		{"starts before pairs", near, turnsOf(1, 0, 1), [2]int{}, api.ErrRange},
	} {
		p, e := sonar.BlindIn(c.devices, c.turns)
		want(t, "BlindIn: "+c.name, p, e, c.pair, c.err)
	}
}

// ticksOf is how many windows of a device hold each tick of a cycle.
func ticksOf(d api.SonarDevice, start, cycle int) []int {
	ticks := make([]int, cycle)
	for j := range d.Send + d.Listen {
		ticks[(start+j)%cycle]++
	}
	return ticks
}

// isBlind is whether two devices, or one itself, blind each other, found tick by tick.
func isBlind(l []api.SonarDevice, t api.SonarTurns, i, k int) bool {
	a, b := ticksOf(l[i], t.Starts[i], t.Cycle), ticksOf(l[k], t.Starts[k], t.Cycle)
	if i == k {
		return slices.Max(a) > 1
	}
	if l[i].Band-l[k].Band > 1 || l[k].Band-l[i].Band > 1 {
		return false
	}
	for tick := range a {
		if a[tick] > 0 && b[tick] > 0 {
			return true
		}
	}
	return false
}

// firstBlind is the first pair that is blind, found tick by tick.
func firstBlind(l []api.SonarDevice, t api.SonarTurns) ([2]int, api.Errno) {
	for i := range l {
		for k := i; k < len(l); k++ {
			if isBlind(l, t, i, k) {
				return [2]int{i, k}, api.OK
			}
		}
	}
	return [2]int{}, api.ErrNone
}

func TestBlindTickByTick(t *testing.T) {
	r := newRandom()
	clear := 0
	for range 5000 {
		l := randomDevices(r, between(r, 1, 5), between(r, 1, 5))
		x := turnsOf(between(r, 1, 40))
		for range l {
			x.Starts = append(x.Starts, r.IntN(x.Cycle))
		}
		pair, err := firstBlind(l, x)
		p, e := sonar.BlindIn(l, x)
		want(t, "BlindIn", p, e, pair, err)
		if err != api.OK {
			clear++
		}
	}
	if clear < 500 || clear > 4500 {
		t.Errorf("%d of 5000 turns are clear: too few of one kind are tested", clear)
	}
}

func TestBoundOf(t *testing.T) {
	of := func(devices ...[2]int) []api.SonarDevice {
		var l []api.SonarDevice
		for _, d := range devices {
			l = append(l, api.SonarDevice{Band: d[0], Send: (d[1] + 1) / 2, Listen: d[1] / 2})
		}
		return l
	}
	for _, c := range []struct {
		name    string
		devices []api.SonarDevice
		set     []int
		bound   int
	}{
		{"example", exampleDevices(), []int{0, 1}, 9},
		{"one", of([2]int{7, 5}), []int{0}, 5},
		{"one alone is longer", of([2]int{1, 2}, [2]int{2, 2}, [2]int{9, 5}), []int{2}, 5},
		{"of the same sum the smaller one", of([2]int{1, 2}, [2]int{2, 3}, [2]int{9, 5}), []int{2}, 5},
		{"of the same size the first one", of([2]int{1, 2}, [2]int{5, 3}, [2]int{2, 3}, [2]int{6, 2}), []int{0, 2}, 5},
		{"of two alone the first one", of([2]int{1, 4}, [2]int{3, 5}, [2]int{5, 5}), []int{1}, 5},
		{"bands in a row disturb their neighbours alone", of([2]int{1, 5}, [2]int{2, 1}, [2]int{3, 5}), []int{0, 1}, 6},
		{"all in one band", of([2]int{4, 20}, [2]int{4, 20}, [2]int{4, 20}, [2]int{4, 20}, [2]int{4, 20}), []int{0, 1, 2, 3, 4}, 100},
	} {
		s, n, e := sonar.BoundOf(c.devices)
		want(t, "the set of BoundOf: "+c.name, s, e, c.set, api.OK)
		want(t, "BoundOf: "+c.name, n, e, c.bound, api.OK)
	}
}

// disturbing is the sum of the windows of a set, or -1 if its devices don't disturb each other pairwise.
func disturbing(l []api.SonarDevice, set []int) int {
	sum, bands := 0, []int{}
	for _, i := range set {
		sum += l[i].Send + l[i].Listen
		bands = append(bands, l[i].Band)
	}
	if len(set) > 0 && slices.Max(bands)-slices.Min(bands) > 1 {
		return -1
	}
	return sum
}

func TestBoundIsTheGreatest(t *testing.T) {
	r := newRandom()
	for range 2000 {
		l := randomDevices(r, between(r, 1, 5), between(r, 1, 4))
		var set []int
		for _, s := range allSets(len(l)) {
			if disturbing(l, s) > disturbing(l, set) {
				set = s
			}
		}
		s, n, e := sonar.BoundOf(l)
		want(t, "the set of BoundOf", s, e, set, api.OK)
		want(t, "BoundOf", n, e, disturbing(l, set), api.OK)
	}
}
