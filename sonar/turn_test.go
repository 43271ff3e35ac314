package sonar_test

import (
	"math"
	"slices"
	"testing"

	"moonpool/api"
	"moonpool/sonar"
)

// P4.1, P4.7

func TestFirstTurns(t *testing.T) {
	alone := []api.SonarDevice{{Band: 9, Send: 3, Listen: 1}}
	far := []api.SonarDevice{{Band: 1, Send: 2, Listen: 3}, {Band: 3, Send: 5}, {Band: 5, Send: 1}}
	row := []api.SonarDevice{{Band: 1, Send: 2}, {Band: 2, Send: 3}, {Band: 3, Send: 2}}
	for _, c := range []struct {
		name    string
		devices []api.SonarDevice
		cycle   int
		turns   api.SonarTurns
		err     api.Errno
	}{
		{"example", exampleDevices(), 9, turnsOf(9, 0, 5, 0), api.OK},
		{"example, longer", exampleDevices(), 40, turnsOf(40, 0, 5, 0), api.OK},
		{"example, too short", exampleDevices(), 8, turnsOf(0), api.ErrNone},
		{"example, shortest", exampleDevices(), 1, turnsOf(0), api.ErrNone},
		{"one begins at 0", alone, 4, turnsOf(4, 0), api.OK},
		{"one that blinds itself", alone, 3, turnsOf(0), api.ErrNone},
		{"those that don't disturb each other begin together", far, 5, turnsOf(5, 0, 0, 0), api.OK},
		{"a row", row, 5, turnsOf(5, 0, 2, 0), api.OK},
		{"a start that goes back", []api.SonarDevice{{Band: 2, Send: 1}, {Band: 1, Send: 1}, {Band: 3, Send: 3}}, 4, turnsOf(4, 0, 1, 1), api.OK},
		{"the greatest windows", []api.SonarDevice{{Send: 10, Listen: 10}, {Band: 1, Send: 10, Listen: 10}}, 40, turnsOf(40, 0, 20), api.OK},
		{"cycle 0", alone, 0, turnsOf(0), api.ErrRange},
		{"cycle 41", alone, 41, turnsOf(0), api.ErrRange},
		{"cycle -1", alone, -1, turnsOf(0), api.ErrRange},
		{"the least int as a cycle", alone, math.MinInt, turnsOf(0), api.ErrRange},
	} {
		x, e := sonar.FirstTurns(c.devices, c.cycle)
		want(t, "FirstTurns: "+c.name, x, e, c.turns, c.err)
	}
}

func TestShortestTurns(t *testing.T) {
	great := api.SonarDevice{Send: 10, Listen: 10}
	for _, c := range []struct {
		name    string
		devices []api.SonarDevice
		turns   api.SonarTurns
		err     api.Errno
	}{
		{"example", exampleDevices(), turnsOf(9, 0, 5, 0), api.OK},
		{"one is as long as its window", []api.SonarDevice{{Band: 9, Send: 3, Listen: 1}}, turnsOf(4, 0), api.OK},
		{"one tick", []api.SonarDevice{{Send: 1}}, turnsOf(1, 0), api.OK},
		{"none disturbs another", []api.SonarDevice{{Send: 3}, {Band: 2, Send: 2}, {Band: 4, Send: 5}}, turnsOf(5, 0, 0, 0), api.OK},
		{"cycle 40", []api.SonarDevice{great, great}, turnsOf(40, 0, 20), api.OK},
		{"cycle 41", []api.SonarDevice{great, great, {Band: 1, Send: 1}}, turnsOf(0), api.ErrNone},
		{"cycle 60", []api.SonarDevice{great, great, great}, turnsOf(0), api.ErrNone},
		{"five", []api.SonarDevice{{Send: 8}, {Send: 8}, {Send: 8}, {Send: 8}, {Band: 1, Send: 8}}, turnsOf(40, 0, 8, 16, 24, 32), api.OK},
	} {
		x, e := sonar.ShortestTurns(c.devices)
		want(t, "ShortestTurns: "+c.name, x, e, c.turns, c.err)
	}
}

// firstClear are the first turns of a cycle, found by trying all starts.
func firstClear(l []api.SonarDevice, cycle int) (api.SonarTurns, api.Errno) {
	x := turnsOf(cycle, make([]int, len(l))...)
	for {
		if _, e := firstBlind(l, x); e == api.ErrNone {
			return x, api.OK
		}
		at := len(l) - 1
		for at >= 0 && x.Starts[at] == cycle-1 {
			x.Starts[at] = 0
			at--
		}
		if at < 0 {
			return api.SonarTurns{}, api.ErrNone
		}
		x.Starts[at]++
	}
}

func TestTurnsAreFirst(t *testing.T) {
	r := newRandom()
	none := 0
	for range 700 {
		l := randomDevices(r, between(r, 1, 4), between(r, 1, 3))
		cycle := between(r, 1, 8)
		turns, err := firstClear(l, cycle)
		x, e := sonar.FirstTurns(l, cycle)
		want(t, "FirstTurns", x, e, turns, err)
		if err != api.OK {
			none++
		}
	}
	if none < 70 || none > 630 {
		t.Errorf("%d of 700 cycles have no turns: too few of one kind are tested", none)
	}
}

func TestFiveTurnsAreFirst(t *testing.T) {
	r := newRandom()
	for range 100 {
		l := randomDevices(r, 5, 2)
		cycle := between(r, 4, 7)
		turns, err := firstClear(l, cycle)
		x, e := sonar.FirstTurns(l, cycle)
		want(t, "FirstTurns", x, e, turns, err)
	}
}

func TestShortestTurnsAreFirst(t *testing.T) {
	r := newRandom()
	for range 1000 {
		l := randomDevices(r, between(r, 1, 5), between(r, 1, 10))
		x, e := sonar.ShortestTurns(l)
		wanted, err := api.SonarTurns{}, api.ErrNone
		for cycle := 1; cycle <= api.MaxSonarCycle && err != api.OK; cycle++ {
			wanted, err = sonar.FirstTurns(l, cycle)
		}
		want(t, "ShortestTurns", x, e, wanted, err)
	}
}

func TestNoneIsBlindInTurns(t *testing.T) {
	r := newRandom()
	for range 1000 {
		l := randomDevices(r, between(r, 1, 5), between(r, 1, 8))
		_, bound, _ := sonar.BoundOf(l)
		shortest, err := sonar.ShortestTurns(l)
		for _, cycle := range []int{1, bound - 1, bound, bound + 1, between(r, 1, 40), 40} {
			x, e := sonar.FirstTurns(l, cycle)
			if e != api.OK {
				continue
			}
			if cycle < bound || err != api.OK || cycle < shortest.Cycle {
				t.Errorf("%v has turns of %d ticks, but the bound %d and the shortest ones %v", l, cycle, bound, shortest)
			}
			p, e := sonar.BlindIn(l, x)
			want(t, "BlindIn of first turns", p, e, [2]int{}, api.ErrNone)
		}
	}
}

func TestMovedTurns(t *testing.T) {
	r := newRandom()
	for range 1000 {
		l := randomDevices(r, between(r, 1, 5), between(r, 1, 5))
		x := turnsOf(between(r, 1, 20))
		for range l {
			x.Starts = append(x.Starts, r.IntN(x.Cycle))
		}
		pair, err := sonar.BlindIn(l, x)
		moved, by := turnsOf(x.Cycle, slices.Clone(x.Starts)...), r.IntN(40)
		for i := range moved.Starts {
			moved.Starts[i] = (moved.Starts[i] + by) % x.Cycle
		}
		p, e := sonar.BlindIn(l, moved)
		want(t, "BlindIn of moved turns", p, e, pair, err)
	}
}
