package arm_test

import (
	"fmt"
	"math"
	"math/rand/v2"
	"slices"
	"testing"

	"moonpool/api"
	"moonpool/arm"
)

// P6.5, P6.12

// exampleValve is the valve of example 5.
func exampleValve() api.ArmValve { return api.ArmValve{Dead: 10, Gain: 500, Leak: 2} }

func TestSpeedIn(t *testing.T) {
	for _, c := range []struct {
		valve   api.ArmValve
		command int
		speed   api.Range
	}{
		{exampleValve(), 15, spanOf(0, 5)},
		{exampleValve(), -15, spanOf(-5, 0)},
		{exampleValve(), 5, spanOf(-2, 2)},
		{exampleValve(), 0, spanOf(-2, 2)},
		{exampleValve(), 10, spanOf(-2, 2)},
		{exampleValve(), -10, spanOf(-2, 2)},
		{exampleValve(), 11, spanOf(-2, 3)},
		{exampleValve(), -11, spanOf(-3, 2)},
		{exampleValve(), 12, spanOf(-1, 3)},
		{exampleValve(), -12, spanOf(-3, 1)},
		{exampleValve(), 100, spanOf(43, 47)},
		{api.ArmValve{}, 100, spanOf(0, 0)},
		{api.ArmValve{Leak: 100}, -100, spanOf(-100, 100)},
		{api.ArmValve{Gain: 1000}, 100, spanOf(100, 100)},
		{api.ArmValve{Gain: 1000}, -1, spanOf(-1, -1)},
		{api.ArmValve{Gain: 1}, 1, spanOf(0, 1)},
		{api.ArmValve{Gain: 1}, -1, spanOf(-1, 0)},
		{api.ArmValve{Gain: 999}, 100, spanOf(99, 100)},
		{api.ArmValve{Gain: 999}, -100, spanOf(-100, -99)},
		{api.ArmValve{Dead: 100, Gain: 1000, Leak: 1}, 100, spanOf(-1, 1)},
		{api.ArmValve{Dead: 99, Gain: 1000, Leak: 100}, -100, spanOf(-101, 99)},
	} {
		r, e := arm.SpeedIn(c.valve, c.command)
		want(t, fmt.Sprint("SpeedIn of ", c.valve, c.command), r, e, c.speed, api.OK)
	}
}

func TestTravelIn(t *testing.T) {
	for _, c := range []struct {
		valve    api.ArmValve
		commands []int
		travel   api.Range
	}{
		{exampleValve(), []int{15, 15, 5}, spanOf(-2, 12)},
		{exampleValve(), []int{5, -15, 15}, spanOf(-7, 7)},
		{exampleValve(), nil, spanOf(0, 0)},
		{exampleValve(), []int{-100}, spanOf(-47, -43)},
		{api.ArmValve{Gain: 1000, Leak: 100}, slices.Repeat([]int{100}, 30), spanOf(0, 6000)},
		{api.ArmValve{Gain: 1000, Leak: 100}, slices.Repeat([]int{-100}, 30), spanOf(-6000, 0)},
		{api.ArmValve{Gain: 1}, slices.Repeat([]int{1, -1}, 15), spanOf(-15, 15)},
	} {
		r, e := arm.TravelIn(c.valve, c.commands)
		want(t, fmt.Sprint("TravelIn of ", c.valve, c.commands), r, e, c.travel, api.OK)
	}
	for _, c := range []struct {
		commands []int
		err      api.Errno
	}{
		{make([]int, 31), api.ErrLarge},
		{append(make([]int, 30), 101), api.ErrLarge},
		{[]int{0, 101}, api.ErrRange},
		{[]int{-101, 0}, api.ErrRange},
		{[]int{0, math.MinInt}, api.ErrRange},
	} {
		r, e := arm.TravelIn(exampleValve(), c.commands)
		want(t, fmt.Sprint("TravelIn of ", c.commands), r, e, api.Range{}, c.err)
		r, e = arm.TravelIn(api.ArmValve{Dead: -1}, c.commands)
		want(t, fmt.Sprint("TravelIn of a bad valve ", c.commands), r, e, api.Range{}, api.ErrRange)
	}
}

// TestBadValves calls all functions of valves and commands.
func TestBadValves(t *testing.T) {
	for _, v := range []api.ArmValve{
		{Dead: -1}, {Dead: 101}, {Gain: -1}, {Gain: 1001}, {Leak: -1}, {Leak: 101}, {Dead: math.MinInt}, {Gain: math.MaxInt}, {Leak: math.MinInt},
	} {
		a := exampleArguments()
		a.valve = v
		for _, x := range resultsOf(a) {
			if x.takes("valve") {
				x.wantError(t, fmt.Sprint(v), api.ErrRange)
			}
		}
	}
	for _, c := range []int{101, -101, math.MaxInt, math.MinInt} {
		a := exampleArguments()
		a.command = c
		for _, x := range resultsOf(a) {
			if x.takes("command") {
				x.wantError(t, fmt.Sprint(c), api.ErrRange)
			}
		}
	}
}

func randomValve(r *rand.Rand) api.ArmValve {
	return api.ArmValve{Dead: r.IntN(between(r, 1, 101)), Gain: r.IntN(1001), Leak: r.IntN(101)}
}

// drift is the speed of a valve without a leak, in thousandths.
func drift(v api.ArmValve, command int) int {
	if command < 0 {
		return -drift(v, -command)
	}
	return v.Gain * max(command-v.Dead, 0)
}

// TestSpeedsOfAllCommands checks that each end is the nearest whole number that encloses all speeds, and the order and the signs of speeds.
func TestSpeedsOfAllCommands(t *testing.T) {
	r := newRandom()
	for range 300 {
		v := randomValve(r)
		before := spanOf(math.MinInt, math.MinInt)
		for c := -100; c <= 100; c++ {
			x, e := arm.SpeedIn(v, c)
			least, most := drift(v, c)-1000*v.Leak, drift(v, c)+1000*v.Leak
			if e != api.OK || 1000*x.Lo > least || 1000*(x.Lo+1) <= least || 1000*x.Hi < most || 1000*(x.Hi-1) >= most {
				t.Fatalf("SpeedIn of %v, %d: %v, error %d, not %d/1000 to %d/1000", v, c, x, e, least, most)
			}
			if x.Lo < before.Lo || x.Hi < before.Hi {
				t.Fatalf("SpeedIn of %v, %d: %v, less than %v before", v, c, x, before)
			}
			before = x
			y, e := arm.SpeedIn(v, -c)
			want(t, fmt.Sprint("SpeedIn of ", v, -c), y, e, spanOf(-x.Hi, -x.Lo), api.OK)
		}
	}
}

// TestTravelHoldsEverySpeed adds speeds that are true for commands, in thousandths.
func TestTravelHoldsEverySpeed(t *testing.T) {
	r := newRandom()
	for range 2000 {
		v := randomValve(r)
		commands := make([]int, r.IntN(31))
		var ends api.Range
		truth := 0
		for i := range commands {
			commands[i] = between(r, -100, 100)
			x, _ := arm.SpeedIn(v, commands[i])
			ends.Lo += x.Lo
			ends.Hi += x.Hi
			leak := between(r, -1000*v.Leak, 1000*v.Leak)
			if r.IntN(3) == 0 {
				leak = 1000 * v.Leak
			}
			truth += drift(v, commands[i]) + leak
		}
		travel, e := arm.TravelIn(v, commands)
		want(t, fmt.Sprint("TravelIn of ", v, commands), travel, e, ends, api.OK)
		if truth < 1000*travel.Lo || truth > 1000*travel.Hi {
			t.Fatalf("TravelIn of %v, %v: %v without %d/1000", v, commands, travel, truth)
		}
	}
}
