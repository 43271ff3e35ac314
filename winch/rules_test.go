package winch_test

import (
	"math"
	"math/rand/v2"
	"reflect"
	"slices"
	"testing"

	"moonpool/api"
	"moonpool/winch"
)

// R2, R3, R4

// arguments of every function, whose lists none of them may change.
type arguments struct {
	samples         []int
	predictor       api.WinchPredictor
	limits          api.WinchLimits
	speeds          []int
	distance        int
	loop, stiff     api.WinchLoop
	state           api.WinchState
	heave           int
	heaves          []int
	states          []api.WinchState
	forecasts       []api.Range
	calm            api.WinchCalm
	tick            int
	latch           api.WinchLatch
	latched         api.WinchLatched
	event           api.WinchEvent
	events          []api.WinchEvent
	samplesT, loopT string
}

func exampleArguments() arguments {
	return arguments{
		samples:   exampleSamples(),
		predictor: api.WinchPredictor{A: 3, B: 2, Den: 3},
		limits:    exampleLimits(),
		speeds:    []int{1, 2, 3, 2, 1, 1},
		distance:  10,
		loop:      exampleLoop(),
		stiff:     stiffLoop(),
		heave:     1,
		heaves:    []int{1, 1},
		states:    exampleStates(),
		forecasts: exampleForecasts(),
		calm:      exampleCalm(),
		tick:      2,
		latch:     exampleLatch(),
		latched:   api.WinchLatched{Closed: true, Load: 8, Since: 20},
		event:     open(25),
		events:    []api.WinchEvent{load(3, 50), load(20, 8), open(25)},
		samplesT:  "1 1 2 3 4",
		loopT:     "-1 1 1 2 -2 -1 0 1 2",
	}
}

// results are those of all functions.
func results(a arguments) []any {
	var all []any
	add := func(x any, e api.Errno) { all = append(all, x, e) }
	i, e := winch.CheckSamples(a.samples)
	add(i, e)
	p, e := winch.PredictorOf(a.samples)
	add(p, e)
	i, e = winch.CheckPredictor(a.samples, a.predictor)
	add(i, e)
	f, e := winch.ResidualOf(a.samples)
	add(f, e)
	f, e = winch.NextBy(a.predictor, a.samples)
	add(f, e)
	i, e = winch.CheckProfile(a.limits, a.speeds)
	add(i, e)
	i, e = winch.TicksFor(a.limits, a.distance)
	add(i, e)
	l, e := winch.ProfileFor(a.limits, a.distance)
	add(l, e)
	i, e = winch.CheckLoop(a.loop)
	add(i, e)
	s, e := winch.NextIn(a.loop, a.state, a.heave)
	add(s, e)
	run, e := winch.RunOf(a.loop, a.heaves)
	add(run, e)
	run, e = winch.ReachedBy(a.loop)
	add(run, e)
	is, e := winch.Holds(a.loop)
	add(is, e)
	i, e = winch.CheckClosed(a.loop, a.states)
	add(i, e)
	l, e = winch.BrokenBy(a.stiff)
	add(l, e)
	w, e := winch.WindowsIn(a.forecasts, a.calm)
	add(w, e)
	w, e = winch.PossibleIn(a.forecasts, a.calm)
	add(w, e)
	i, e = winch.FirstFrom(a.forecasts, a.calm, a.tick)
	add(i, e)
	k, e := winch.NextLatch(a.latch, a.latched, a.event)
	add(k, e)
	k, e = winch.LatchedBy(a.latch, a.events)
	add(k, e)
	l, e = winch.ParseSamples(a.samplesT)
	add(l, e)
	x, e := winch.ParseLoop(a.loopT)
	add(x, e)
	return append(all, winch.FormatSamples(a.samples), winch.FormatLoop(a.loop))
}

// clobber overwrites all lists of arguments.
func clobber(a arguments) {
	for _, l := range [][]int{a.samples, a.speeds, a.loop.Table, a.stiff.Table, a.heaves} {
		clear(l)
	}
	clear(a.states)
	clear(a.forecasts)
	clear(a.events)
}

func TestArgumentsAreKept(t *testing.T) {
	a := exampleArguments()
	first := results(a)
	if !reflect.DeepEqual(a, exampleArguments()) {
		t.Errorf("arguments were modified: %v", a)
	}
	again := results(a)
	if !reflect.DeepEqual(first, again) {
		t.Errorf("the same arguments have other results: %v, %v", first, again)
	}
	clobber(a)
	if !reflect.DeepEqual(first, again) || !reflect.DeepEqual(first, results(exampleArguments())) {
		t.Errorf("results share memory with arguments")
	}
	for i, x := range first {
		if e, ok := x.(api.Errno); ok && e != api.OK {
			t.Errorf("result %d is the error %d", i, e)
		}
	}
}

func TestSpareCapacityIsKept(t *testing.T) {
	table := append(make([]int, 0, 40), exampleLoop().Table...)
	spare := table[len(table):cap(table)]
	for i := range spare {
		spare[i] = 7
	}
	l := exampleLoop()
	l.Table = table
	winch.FormatLoop(l)
	winch.ReachedBy(l)
	if slices.ContainsFunc(spare, func(n int) bool { return n != 7 }) {
		t.Errorf("memory behind an argument was changed: %v", spare)
	}
}

func TestResultsShareNoMemory(t *testing.T) {
	a, b := exampleArguments(), exampleArguments()
	first, second := results(a), results(b)
	for _, x := range first {
		switch l := x.(type) {
		case []int:
			clear(l)
		case []api.WinchState:
			clear(l)
		case []api.Range:
			clear(l)
		case api.WinchLoop:
			clear(l.Table)
		}
	}
	if !reflect.DeepEqual(second, results(exampleArguments())) {
		t.Errorf("results share memory: %v", second)
	}
}

// odd is a number of any size, often one at a limit.
func odd(r *rand.Rand) int {
	some := []int{0, 1, -1, 2, 3, 4, 5, 10, 11, 100, 200, 1000, api.MaxWinchPart, api.MaxTick, math.MaxInt, math.MinInt, math.MinInt + 1}
	return some[r.IntN(len(some))]
}

func odds(r *rand.Rand) []int {
	l := make([]int, r.IntN(24))
	for i := range l {
		l[i] = odd(r)
	}
	return l
}

// oddArguments are any ones, valid or not.
func oddArguments(r *rand.Rand) arguments {
	a := arguments{
		samples:   odds(r),
		predictor: api.WinchPredictor{A: odd(r), B: odd(r), Den: odd(r)},
		limits:    api.WinchLimits{Speed: odd(r), Step: odd(r)},
		speeds:    odds(r),
		distance:  odd(r),
		loop:      api.WinchLoop{Table: odds(r), Sea: api.Range{Lo: odd(r), Hi: odd(r)}, Turn: odd(r), Slew: odd(r)},
		state:     api.WinchState{Error: odd(r), Command: odd(r), Heave: odd(r)},
		heave:     odd(r),
		heaves:    odds(r),
		calm:      api.WinchCalm{Limit: odd(r), Length: odd(r)},
		tick:      odd(r),
		latch:     api.WinchLatch{Limit: odd(r), Hold: odd(r)},
		latched:   api.WinchLatched{Load: odd(r), Since: odd(r)},
		event:     api.WinchEvent{At: odd(r), Kind: odd(r), Value: odd(r)},
		samplesT:  winch.FormatSamples(odds(r)),
	}
	a.loopT = winch.FormatLoop(a.loop)
	for range r.IntN(4) {
		a.states = append(a.states, api.WinchState{Error: odd(r), Command: odd(r), Heave: odd(r)})
		a.forecasts = append(a.forecasts, api.Range{Lo: odd(r), Hi: odd(r)})
		a.events = append(a.events, api.WinchEvent{At: odd(r), Kind: odd(r), Value: odd(r)})
	}
	a.stiff = a.loop
	if r.IntN(2) == 0 {
		a.loop, a.stiff = randomLoop(r, api.MaxWinchBound), randomLoop(r, api.MaxWinchBound)
	}
	return a
}

// TestEveryCallReturns calls everything with anything: besides an error stands no other result, but for an index.
func TestEveryCallReturns(t *testing.T) {
	r := newRandom()
	for range 5000 {
		a := oddArguments(r)
		all := results(a)
		for i := 1; i < len(all); i += 2 {
			e, ok := all[i].(api.Errno)
			_, isIndex := all[i-1].(int)
			if ok && e != api.OK && !isIndex && !reflect.ValueOf(all[i-1]).IsZero() {
				t.Fatalf("%v: %v beside the error %d", a, all[i-1], e)
			}
		}
	}
}
