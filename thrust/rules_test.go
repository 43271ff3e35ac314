package thrust_test

import (
	"math"
	"math/rand/v2"
	"reflect"
	"testing"

	"moonpool/api"
	"moonpool/thrust"
)

// R1, R2, R3, R4

// arguments of every function, whose lists none of them may change.
type arguments struct {
	thrusters       []api.Thruster
	index, failures int
	whole           []int
	wanted, far     [3]int
	least, nearest  api.ThrustSetting
	prices          api.ThrustPrices
	direction       [3]int
	wants           [][3]int
	texts           [2]string
}

func exampleArguments() arguments {
	return arguments{
		thrusters: exampleThrusters(),
		index:     1,
		failures:  2,
		whole:     []int{3, 5, -4},
		wanted:    [3]int{8, -4, 4},
		far:       [3]int{20, 0, 8},
		least:     exampleLeast(),
		nearest:   api.ThrustSetting{Den: 5, Parts: []int{34, 50, 0}},
		prices:    examplePrices(),
		direction: [3]int{2, 0, 1},
		wants:     exampleWants(),
		texts:     [2]string{exampleText, "3 5 -4"},
	}
}

// results are those of all functions.
func results(a arguments) []any {
	var all []any
	add := func(x any, e api.Errno) { all = append(all, x, e) }
	i, e := thrust.CheckThrusters(a.thrusters)
	add(i, e)
	c, e := thrust.ColumnOf(a.thrusters, a.index)
	add(c, e)
	c, e = thrust.ForceOf(a.thrusters, a.whole)
	add(c, e)
	i, e = thrust.CheckSetting(a.thrusters, a.whole)
	add(i, e)
	s, e := thrust.LeastOf(a.thrusters, a.wanted)
	add(s, e)
	x, e := thrust.PricesOf(a.thrusters, a.wanted)
	add(x, e)
	i, e = thrust.CheckLeast(a.thrusters, a.wanted, a.least, a.prices)
	add(i, e)
	s, e = thrust.NearestOf(a.thrusters, a.far)
	add(s, e)
	m, e := thrust.MissOf(a.thrusters, a.far)
	add(m, e)
	i, e = thrust.CheckNearest(a.thrusters, a.far, a.nearest)
	add(i, e)
	i, e = thrust.SupportOf(a.thrusters, a.direction)
	add(i, e)
	is, e := thrust.IsReachable(a.thrusters, a.wanted)
	add(is, e)
	c, e = thrust.CutOf(a.thrusters, a.far)
	add(c, e)
	i, e = thrust.CheckCut(a.thrusters, a.far, a.direction)
	add(i, e)
	l, e := thrust.WeakTo(a.thrusters, a.wants, a.failures)
	add(l, e)
	l, e = thrust.EnoughFor(a.thrusters, a.wants)
	add(l, e)
	l, e = thrust.WholeNear(a.thrusters, a.nearest)
	add(l, e)
	p, e := thrust.ParseThrusters(a.texts[0])
	add(p, e)
	l, e = thrust.ParseSetting(a.texts[1])
	add(l, e)
	return append(all, thrust.FormatThrusters(a.thrusters), thrust.FormatSetting(a.whole))
}

// clobber overwrites all lists of arguments.
func clobber(a arguments) {
	clear(a.thrusters)
	clear(a.whole)
	clear(a.least.Parts)
	clear(a.nearest.Parts)
	clear(a.wants)
}

func TestArgumentsAreKept(t *testing.T) {
	a := exampleArguments()
	first := results(a)
	if !reflect.DeepEqual(a, exampleArguments()) {
		t.Errorf("arguments were modified: %v", a)
	}
	again := results(a)
	if !reflect.DeepEqual(first, again) {
		t.Errorf("the same arguments have other results: %v, %v", first, again)
	}
	clobber(a)
	if !reflect.DeepEqual(first, again) || !reflect.DeepEqual(first, results(exampleArguments())) {
		t.Errorf("results share memory with arguments")
	}
	for i, x := range first {
		if e, ok := x.(api.Errno); ok && e != api.OK {
			t.Errorf("result %d is the error %d", i, e)
		}
	}
}

func TestResultsShareNoMemory(t *testing.T) {
	first, second := results(exampleArguments()), results(exampleArguments())
	for _, x := range first {
		switch l := x.(type) {
		case []int:
			clear(l)
		case []api.Thruster:
			clear(l)
		case api.ThrustSetting:
			clear(l.Parts)
		}
	}
	if !reflect.DeepEqual(second, results(exampleArguments())) {
		t.Errorf("results share memory: %v", second)
	}
}

func TestSpareCapacityIsKept(t *testing.T) {
	parts := append(make([]int, 0, 20), 34, 50, 0)
	spare := parts[len(parts):cap(parts)]
	for i := range spare {
		spare[i] = 7
	}
	a := exampleArguments()
	a.nearest.Parts = parts
	results(a)
	for _, n := range spare {
		if n != 7 {
			t.Fatalf("memory behind an argument was changed: %v", spare)
		}
	}
}

// odd is a number of any size, often one at a limit.
func odd(r *rand.Rand) int {
	some := []int{0, 1, -1, 2, 3, 4, 5, 6, 100, 101, 1000, 1001, 10000, api.MaxPart, api.MaxThrustPart, math.MaxInt, math.MinInt, math.MinInt + 1}
	return some[r.IntN(len(some))]
}

func odds(r *rand.Rand) []int {
	l := make([]int, r.IntN(7))
	for i := range l {
		l[i] = odd(r)
	}
	return l
}

func oddNumbers(r *rand.Rand) [3]int { return [3]int{odd(r), odd(r), odd(r)} }

// oddArguments are any ones, valid or not.
func oddArguments(r *rand.Rand) arguments {
	a := arguments{
		index:     odd(r),
		failures:  odd(r),
		whole:     odds(r),
		wanted:    oddNumbers(r),
		far:       oddNumbers(r),
		least:     api.ThrustSetting{Den: odd(r), Parts: odds(r)},
		nearest:   api.ThrustSetting{Den: odd(r), Parts: odds(r)},
		prices:    api.ThrustPrices{Den: odd(r), Parts: oddNumbers(r)},
		direction: oddNumbers(r),
	}
	for range r.IntN(8) {
		a.wants = append(a.wants, oddNumbers(r))
		a.thrusters = append(a.thrusters, api.Thruster{
			Direction: [2]int{odd(r), odd(r)},
			Place:     [2]int{odd(r), odd(r)},
			Limit:     api.Range{Lo: odd(r), Hi: odd(r)},
			Dead:      odd(r),
		})
	}
	if r.IntN(3) > 0 {
		a.thrusters = randomThrusters(r, between(r, 1, 5))
	}
	a.texts = [2]string{thrust.FormatThrusters(a.thrusters), thrust.FormatSetting(a.whole)}
	return a
}

// TestEveryCallReturns calls everything with anything: besides an error stands no other result, but for an index.
func TestEveryCallReturns(t *testing.T) {
	r := newRandom()
	for range 5000 {
		a := oddArguments(r)
		all := results(a)
		for i := 1; i < len(all); i += 2 {
			e, ok := all[i].(api.Errno)
			_, isIndex := all[i-1].(int)
			if ok && e != api.OK && !isIndex && !reflect.ValueOf(all[i-1]).IsZero() {
				t.Fatalf("%v: %v beside the error %d", a, all[i-1], e)
			}
		}
	}
}
