package thrust_test

import (
	"math"
	"math/big"
	"math/rand/v2"
	"reflect"
	"slices"
	"testing"

	"moonpool/api"
	"moonpool/thrust"
)

// want compares a result and an error. A nil slice and an empty one are the same result.
func want(t *testing.T, what string, got any, e api.Errno, wanted any, err api.Errno) {
	t.Helper()
	if !reflect.DeepEqual(filled(got), filled(wanted)) || e != err {
		t.Errorf("%s: %v, error %d, want %v, error %d", what, got, e, wanted, err)
	}
}

// filled makes nil slices empty ones.
func filled(x any) any {
	switch l := x.(type) {
	case []int:
		return append([]int{}, l...)
	case []api.Thruster:
		return append([]api.Thruster{}, l...)
	case api.ThrustSetting:
		return api.ThrustSetting{Den: l.Den, Parts: append([]int{}, l.Parts...)}
	}
	return x
}

func newRandom() *rand.Rand { return rand.New(rand.NewPCG(1, 2)) }

// between is a random number from low to high.
func between(r *rand.Rand, low, high int) int { return low + r.IntN(high-low+1) }

// exampleThrusters are the thrusters l of the chapter's examples.
func exampleThrusters() []api.Thruster {
	limit := api.Range{Lo: -10, Hi: 10}
	return []api.Thruster{
		{Direction: [2]int{1, 0}, Place: [2]int{0, 2}, Limit: limit, Dead: 2},
		{Direction: [2]int{1, 0}, Place: [2]int{0, -2}, Limit: limit, Dead: 2},
		{Direction: [2]int{0, 1}, Limit: limit, Dead: 2},
	}
}

// greatThrusters have the greatest columns and limits.
func greatThrusters() []api.Thruster {
	limit := api.Range{Lo: -100, Hi: 100}
	return []api.Thruster{
		{Direction: [2]int{3, -3}, Place: [2]int{5, 5}, Limit: limit, Dead: 100},
		{Direction: [2]int{3, 3}, Place: [2]int{5, -5}, Limit: limit, Dead: 100},
		{Direction: [2]int{-3, 3}, Place: [2]int{5, 5}, Limit: limit, Dead: 100},
		{Direction: [2]int{-3, -3}, Place: [2]int{-5, 5}, Limit: limit, Dead: 100},
		{Direction: [2]int{3, 0}, Place: [2]int{-5, -5}, Limit: limit, Dead: 100},
	}
}

// lineThrusters stand in one line, and push along it: their rank is 1.
func lineThrusters() []api.Thruster {
	limit := api.Range{Lo: -10, Hi: 10}
	return []api.Thruster{
		{Direction: [2]int{1, 0}, Place: [2]int{-1, 0}, Limit: limit},
		{Direction: [2]int{2, 0}, Place: [2]int{3, 0}, Limit: limit},
		{Direction: [2]int{-1, 0}, Limit: limit},
	}
}

// badThrusters are thrusters that CheckThrusters refuses, with the index and the error.
type badThrusters struct {
	name      string
	thrusters []api.Thruster
	index     int
	err       api.Errno
}

func allBadThrusters() []badThrusters {
	with := func(i int, change func(t *api.Thruster)) []api.Thruster {
		l := exampleThrusters()
		change(&l[i])
		return l
	}
	many := slices.Repeat(exampleThrusters(), 2)
	return []badThrusters{
		{"none", nil, 0, api.ErrShape},
		{"six", many, 0, api.ErrLarge},
		{"six before items", append(many[:5:5], api.Thruster{}), 0, api.ErrLarge},
		{"X of a direction too great", with(1, func(t *api.Thruster) { t.Direction[0] = 4 }), 1, api.ErrRange},
		{"Y of a direction too small", with(2, func(t *api.Thruster) { t.Direction[1] = -4 }), 2, api.ErrRange},
		{"X of a place too small", with(0, func(t *api.Thruster) { t.Place[0] = -6 }), 0, api.ErrRange},
		{"Y of a place too great", with(1, func(t *api.Thruster) { t.Place[1] = 6 }), 1, api.ErrRange},
		{"Lo too small", with(2, func(t *api.Thruster) { t.Limit.Lo = -101 }), 2, api.ErrRange},
		{"Lo too great", with(2, func(t *api.Thruster) { t.Limit.Lo = 101 }), 2, api.ErrRange},
		{"Hi too great", with(1, func(t *api.Thruster) { t.Limit.Hi = 101 }), 1, api.ErrRange},
		{"Hi too small", with(1, func(t *api.Thruster) { t.Limit.Hi = -101 }), 1, api.ErrRange},
		{"Dead -1", with(2, func(t *api.Thruster) { t.Dead = -1 }), 2, api.ErrRange},
		{"Dead 101", with(0, func(t *api.Thruster) { t.Dead = 101 }), 0, api.ErrRange},
		{"the least int as a direction", with(1, func(t *api.Thruster) { t.Direction[0] = math.MinInt }), 1, api.ErrRange},
		{"the least int as a place", with(1, func(t *api.Thruster) { t.Place[1] = math.MinInt }), 1, api.ErrRange},
		{"the least int as a limit", with(1, func(t *api.Thruster) { t.Limit.Lo = math.MinInt }), 1, api.ErrRange},
		{"no direction", with(1, func(t *api.Thruster) { t.Direction = [2]int{} }), 1, api.ErrZero},
		{"Lo above 0", with(2, func(t *api.Thruster) { t.Limit = api.Range{Lo: 1, Hi: 2} }), 2, api.ErrOrder},
		{"Hi below 0", with(0, func(t *api.Thruster) { t.Limit = api.Range{Lo: -2, Hi: -1} }), 0, api.ErrOrder},
		{"Lo above Hi", with(0, func(t *api.Thruster) { t.Limit = api.Range{Lo: 1, Hi: -1} }), 0, api.ErrOrder},
		{"range before zero", with(1, func(t *api.Thruster) { t.Direction, t.Dead = [2]int{}, 101 }), 1, api.ErrRange},
		{"zero before order", with(1, func(t *api.Thruster) { t.Direction, t.Limit = [2]int{}, api.Range{Lo: 1, Hi: 2} }), 1, api.ErrZero},
		{"item by item", append(with(0, func(t *api.Thruster) { t.Limit.Lo = 1 }), api.Thruster{Dead: 101}), 0, api.ErrOrder},
		{"the first of two", append(with(2, func(t *api.Thruster) { t.Direction[1] = 0 }), api.Thruster{Dead: 101}), 2, api.ErrZero},
	}
}

// badNumbers are three numbers of which one is greater in size than most.
func badNumbers(most int) [][3]int {
	return [][3]int{
		{most + 1, 0, 0}, {0, most + 1, 0}, {0, 0, most + 1}, {-most - 1, 0, 0}, {0, -most - 1, 0}, {0, 0, -most - 1},
		{math.MinInt, 0, 0}, {0, math.MinInt, 0}, {0, 0, math.MaxInt},
	}
}

// badSetting is a setting of fractions that no three thrusters have, and its error.
type badSetting struct {
	name    string
	setting api.ThrustSetting
	err     api.Errno
}

func badSettings() []badSetting {
	parts := func(l ...int) []int { return l }
	return []badSetting{
		{"nothing", api.ThrustSetting{}, api.ErrRange},
		{"Den 0", api.ThrustSetting{Den: 0, Parts: parts(3, 5, -4)}, api.ErrRange},
		{"Den -1", api.ThrustSetting{Den: -1, Parts: parts(3, 5, -4)}, api.ErrRange},
		{"Den too great", api.ThrustSetting{Den: 1000000001, Parts: parts(3, 5, -4)}, api.ErrRange},
		{"Den the least int", api.ThrustSetting{Den: math.MinInt, Parts: parts(3, 5, -4)}, api.ErrRange},
		{"Den before shape", api.ThrustSetting{Den: 0, Parts: parts(3)}, api.ErrRange},
		{"no parts", api.ThrustSetting{Den: 1}, api.ErrShape},
		{"two parts", api.ThrustSetting{Den: 1, Parts: parts(3, 5)}, api.ErrShape},
		{"four parts", api.ThrustSetting{Den: 1, Parts: parts(3, 5, -4, 0)}, api.ErrShape},
		{"shape before parts", api.ThrustSetting{Den: 1, Parts: parts(3, 1000000000001)}, api.ErrShape},
		{"shape before form", api.ThrustSetting{Den: 2, Parts: parts(6, 10)}, api.ErrShape},
		{"the first part too great", api.ThrustSetting{Den: 1, Parts: parts(1000000000001, 0, 0)}, api.ErrRange},
		{"the last part too small", api.ThrustSetting{Den: 1, Parts: parts(0, 0, -1000000000001)}, api.ErrRange},
		{"a part the least int", api.ThrustSetting{Den: 1, Parts: parts(0, math.MinInt, 0)}, api.ErrRange},
		{"range before form", api.ThrustSetting{Den: 2, Parts: parts(2000000000000, 0, 0)}, api.ErrRange},
		{"all divided by 2", api.ThrustSetting{Den: 2, Parts: parts(6, 10, -8)}, api.ErrForm},
		{"all divided by 5", api.ThrustSetting{Den: 25, Parts: parts(15, 0, -20)}, api.ErrForm},
		{"0 divided by 3", api.ThrustSetting{Den: 3, Parts: parts(0, 0, 0)}, api.ErrForm},
		{"the greatest parts", api.ThrustSetting{Den: 1000000000, Parts: parts(1000000000000, -1000000000000, 0)}, api.ErrForm},
	}
}

// randomThrusters are valid ones, small, great, or in few directions. Many of their limits are 0.
func randomThrusters(r *rand.Rand, count int) []api.Thruster {
	direction, place, most := 3, 5, 100
	switch r.IntN(3) {
	case 0:
		direction, place, most = 1, 1, 3
	case 1:
		direction, place, most = 2, 2, 10
	}
	l := make([]api.Thruster, count)
	for i := range l {
		t := &l[i]
		for t.Direction == [2]int{} {
			t.Direction = [2]int{between(r, -direction, direction), between(r, -direction, direction)}
		}
		t.Place = [2]int{between(r, -place, place), between(r, -place, place)}
		t.Limit = api.Range{Lo: -max(0, between(r, -most/3, most)), Hi: max(0, between(r, -most/3, most))}
		t.Dead = r.IntN(most + 1)
	}
	return l
}

// randomWanted is a wanted force near what thrusters give: that of numbers a little beyond limits, and a little aside.
func randomWanted(r *rand.Rand, l []api.Thruster) [3]int {
	var sum [3]int
	for i, t := range l {
		x := between(r, 2*t.Limit.Lo, 2*t.Limit.Hi)
		if r.IntN(3) > 0 {
			x = between(r, t.Limit.Lo, t.Limit.Hi)
		}
		for k, n := range columnOf(l, i) {
			sum[k] += x * n
		}
	}
	for k := range sum {
		if r.IntN(3) == 0 {
			sum[k] += between(r, -2, 2)
		}
		sum[k] = max(-1000, min(sum[k], 1000))
	}
	return sum
}

// columnOf is a column by its definition.
func columnOf(l []api.Thruster, i int) [3]int {
	t := l[i]
	return [3]int{t.Direction[0], t.Direction[1], t.Place[0]*t.Direction[1] - t.Place[1]*t.Direction[0]}
}

func product(a, b [3]int) int { return a[0]*b[0] + a[1]*b[1] + a[2]*b[2] }

func cross(a, b [3]int) [3]int {
	return [3]int{a[1]*b[2] - a[2]*b[1], a[2]*b[0] - a[0]*b[2], a[0]*b[1] - a[1]*b[0]}
}

// spans is whether the rank of thrusters is 3: some three columns have another determinant than 0.
func spans(l []api.Thruster) bool {
	for i := range l {
		for j := range i {
			for k := range j {
				if product(columnOf(l, i), cross(columnOf(l, j), columnOf(l, k))) != 0 {
					return true
				}
			}
		}
	}
	return false
}

// spanning is random thrusters of the rank 3.
func spanning(r *rand.Rand) []api.Thruster {
	for {
		l := randomThrusters(r, between(r, 3, 5))
		if spans(l) {
			return l
		}
	}
}

func ratio(num, den int) *big.Rat { return big.NewRat(int64(num), int64(den)) }

// isLowest is whether a denominator is above 0, and no number above 1 divides it and all parts.
func isLowest(den int, parts ...int) bool {
	by := big.NewInt(int64(den))
	for _, n := range parts {
		by.GCD(nil, nil, by, new(big.Int).Abs(big.NewInt(int64(n))))
	}
	return den > 0 && by.Cmp(big.NewInt(1)) == 0
}

// givenBy is what a setting of fractions gives.
func givenBy(l []api.Thruster, s api.ThrustSetting) [3]*big.Rat {
	given := [3]*big.Rat{ratio(0, 1), ratio(0, 1), ratio(0, 1)}
	for i := range l {
		for k, n := range columnOf(l, i) {
			given[k].Add(given[k], ratio(n*s.Parts[i], s.Den))
		}
	}
	return given
}

// everySetting is all whole settings within limits.
func everySetting(l []api.Thruster) [][]int {
	all := [][]int{{}}
	for _, t := range l {
		var longer [][]int
		for _, setting := range all {
			for n := t.Limit.Lo; n <= t.Limit.Hi; n++ {
				longer = append(longer, append(slices.Clone(setting), n))
			}
		}
		all = longer
	}
	return all
}

// corners is the settings whose numbers are ends of limits.
func corners(l []api.Thruster) [][]int {
	all := [][]int{{}}
	for _, t := range l {
		var longer [][]int
		for _, setting := range all {
			longer = append(longer, append(slices.Clone(setting), t.Limit.Lo))
			if t.Limit.Lo < t.Limit.Hi {
				longer = append(longer, append(slices.Clone(setting), t.Limit.Hi))
			}
		}
		all = longer
	}
	return all
}

// forceOf is what a whole setting gives.
func forceOf(l []api.Thruster, setting []int) [3]int {
	var sum [3]int
	for i, x := range setting {
		for k, n := range columnOf(l, i) {
			sum[k] += x * n
		}
	}
	return sum
}

// settingIn is a random whole setting within limits.
func settingIn(r *rand.Rand, l []api.Thruster) []int {
	setting := make([]int, len(l))
	for i, t := range l {
		setting[i] = between(r, t.Limit.Lo, t.Limit.Hi)
	}
	return setting
}

// small are random thrusters of small limits, so that all their whole settings can be tried.
func small(r *rand.Rand, most int) []api.Thruster {
	l := randomThrusters(r, between(r, 1, 5))
	for i := range l {
		l[i].Limit = api.Range{Lo: -r.IntN(most + 1), Hi: r.IntN(most + 1)}
	}
	return l
}

func TestExamplesAreValid(t *testing.T) {
	for _, l := range [][]api.Thruster{exampleThrusters(), greatThrusters(), lineThrusters()} {
		i, e := thrust.CheckThrusters(l)
		want(t, "CheckThrusters", i, e, 0, api.OK)
	}
	if !spans(exampleThrusters()) || !spans(greatThrusters()) || spans(lineThrusters()) {
		t.Errorf("the ranks of the examples are others")
	}
}
