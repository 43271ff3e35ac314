package winch_test

import (
	"math"
	"math/rand/v2"
	"reflect"
	"testing"

	"moonpool/api"
	"moonpool/winch"
)

// want compares a result and an error. A nil slice and an empty one are the same result.
func want(t *testing.T, what string, got any, e api.Errno, wanted any, err api.Errno) {
	t.Helper()
	a, b := reflect.ValueOf(got), reflect.ValueOf(wanted)
	same := reflect.DeepEqual(got, wanted)
	if a.Kind() == reflect.Slice && b.Kind() == reflect.Slice && a.Len() == 0 && b.Len() == 0 {
		same = a.Type() == b.Type()
	}
	if !same || e != err {
		t.Errorf("%s: %v, error %d, want %v, error %d", what, got, e, wanted, err)
	}
}

func newRandom() *rand.Rand { return rand.New(rand.NewPCG(1, 2)) }

// between is a random number from low to high.
func between(r *rand.Rand, low, high int) int { return low + r.IntN(high-low+1) }

// numbers is so many random numbers from low to high.
func numbers(r *rand.Rand, count, low, high int) []int {
	l := make([]int, count)
	for i := range l {
		l[i] = between(r, low, high)
	}
	return l
}

func exampleSamples() []int { return []int{1, 1, 2, 3, 4} }

// badSamples are samples that CheckSamples refuses, with the index and the error.
type badSamples struct {
	name    string
	samples []int
	index   int
	err     api.Errno
}

func allBadSamples() []badSamples {
	return []badSamples{
		{"none", nil, 0, api.ErrShape},
		{"three", []int{1, 2, 3}, 0, api.ErrShape},
		{"shape before items", []int{0, 101, 0}, 0, api.ErrShape},
		{"too many", make([]int, 21), 0, api.ErrLarge},
		{"too many before items", append(make([]int, 20), 101), 0, api.ErrLarge},
		{"the first too great", []int{101, 0, 0, 0}, 0, api.ErrRange},
		{"one too great", []int{0, 0, 101, 0}, 2, api.ErrRange},
		{"the last too small", []int{0, 0, 0, -101}, 3, api.ErrRange},
		{"the least int", []int{0, math.MinInt, 0, 0}, 1, api.ErrRange},
		{"two bad ones", []int{0, 0, -101, 101}, 2, api.ErrRange},
	}
}

// exampleLoop is the loop l of the chapter's examples.
func exampleLoop() api.WinchLoop {
	return api.WinchLoop{Table: []int{-2, -1, 0, 1, 2}, Sea: api.Range{Lo: -1, Hi: 1}, Turn: 1, Slew: 2}
}

// stiffLoop is the loop of example 4, which does not hold.
func stiffLoop() api.WinchLoop {
	l := exampleLoop()
	l.Slew = 0
	return l
}

// exampleStates are all reached states of the loop l.
func exampleStates() []api.WinchState {
	return []api.WinchState{
		{Error: -1, Command: -1, Heave: -1}, {Error: -1, Heave: -1}, {Command: -1}, {}, {Command: 1},
		{Error: 1, Heave: 1}, {Error: 1, Command: 1, Heave: 1},
	}
}

// badLoop is a loop that CheckLoop refuses, with the index and the error.
type badLoop struct {
	name  string
	loop  api.WinchLoop
	index int
	err   api.Errno
}

func badLoops() []badLoop {
	with := func(change func(l *api.WinchLoop)) api.WinchLoop {
		l := exampleLoop()
		change(&l)
		return l
	}
	return []badLoop{
		{"no table", with(func(l *api.WinchLoop) { l.Table = nil }), 0, api.ErrShape},
		{"two numbers", with(func(l *api.WinchLoop) { l.Table = []int{0, 0} }), 0, api.ErrShape},
		{"shape before large", with(func(l *api.WinchLoop) { l.Table = make([]int, 12) }), 0, api.ErrShape},
		{"shape before items", with(func(l *api.WinchLoop) { l.Table = []int{0, 11} }), 0, api.ErrShape},
		{"13 numbers", with(func(l *api.WinchLoop) { l.Table = make([]int, 13) }), 0, api.ErrLarge},
		{"large before items", with(func(l *api.WinchLoop) { l.Table = append(make([]int, 12), 11) }), 0, api.ErrLarge},
		{"a command too great", with(func(l *api.WinchLoop) { l.Table[3] = 11 }), 3, api.ErrRange},
		{"a command too small", with(func(l *api.WinchLoop) { l.Table[4] = -11 }), 4, api.ErrRange},
		{"a command the least int", with(func(l *api.WinchLoop) { l.Table[1] = math.MinInt }), 1, api.ErrRange},
		{"two bad commands", with(func(l *api.WinchLoop) { l.Table[2], l.Table[1] = 11, -11 }), 1, api.ErrRange},
		{"a command before the sea", with(func(l *api.WinchLoop) { l.Table[2], l.Sea.Lo = 11, -5 }), 2, api.ErrRange},
		{"Sea.Lo too small", with(func(l *api.WinchLoop) { l.Sea.Lo = -5 }), 0, api.ErrRange},
		{"Sea.Lo the least int", with(func(l *api.WinchLoop) { l.Sea.Lo = math.MinInt }), 0, api.ErrRange},
		{"Sea.Hi too great", with(func(l *api.WinchLoop) { l.Sea.Hi = 5 }), 0, api.ErrRange},
		{"Turn -1", with(func(l *api.WinchLoop) { l.Turn = -1 }), 0, api.ErrRange},
		{"Turn 9", with(func(l *api.WinchLoop) { l.Turn = 9 }), 0, api.ErrRange},
		{"Slew -1", with(func(l *api.WinchLoop) { l.Slew = -1 }), 0, api.ErrRange},
		{"Slew 21", with(func(l *api.WinchLoop) { l.Slew = 21 }), 0, api.ErrRange},
		{"a sea above 0", with(func(l *api.WinchLoop) { l.Sea = api.Range{Lo: 1, Hi: 2} }), 0, api.ErrOrder},
		{"a sea below 0", with(func(l *api.WinchLoop) { l.Sea = api.Range{Lo: -2, Hi: -1} }), 0, api.ErrOrder},
		{"a sea in the wrong order", with(func(l *api.WinchLoop) { l.Sea = api.Range{Lo: 1, Hi: -1} }), 0, api.ErrOrder},
		{"range before order", with(func(l *api.WinchLoop) { l.Sea, l.Slew = api.Range{Lo: 1, Hi: 2}, 21 }), 0, api.ErrRange},
	}
}

// randomLoop is a valid loop whose bound is at most most.
func randomLoop(r *rand.Rand, most int) api.WinchLoop {
	bound := between(r, 0, most)
	l := api.WinchLoop{
		Sea:  api.Range{Lo: between(r, -2, 0), Hi: between(r, 0, 2)},
		Turn: between(r, 0, 4),
		Slew: between(r, 0, 4),
	}
	if r.IntN(4) == 0 {
		l.Sea = api.Range{Lo: between(r, -4, 0), Hi: between(r, 0, 4)}
		l.Slew = between(r, 0, 20)
	}
	for e := -bound; e <= bound; e++ {
		switch r.IntN(8) {
		case 0:
			l.Table = append(l.Table, between(r, -10, 10))
		case 1:
			l.Table = append(l.Table, e-1)
		default:
			l.Table = append(l.Table, e)
		}
	}
	return l
}

// boundOf is the greatest size of an error of a loop.
func boundOf(l api.WinchLoop) int { return len(l.Table) / 2 }

// everyState is all valid states of a loop, in order.
func everyState(l api.WinchLoop) []api.WinchState {
	var states []api.WinchState
	for e := -boundOf(l); e <= boundOf(l); e++ {
		for c := -10; c <= 10; c++ {
			for h := l.Sea.Lo; h <= l.Sea.Hi; h++ {
				states = append(states, api.WinchState{Error: e, Command: c, Heave: h})
			}
		}
	}
	return states
}

// holding is a random loop that holds.
func holding(r *rand.Rand) api.WinchLoop {
	for {
		l := randomLoop(r, api.MaxWinchBound)
		if is, e := winch.Holds(l); is && e == api.OK {
			return l
		}
	}
}
