package thrust_test

import (
	"math/big"
	"math/rand/v2"
	"slices"
	"testing"

	"moonpool/api"
	"moonpool/thrust"
)

// P3.3, P3.9

func TestNearestOf(t *testing.T) {
	still := exampleThrusters()
	still[1].Limit = api.Range{}
	oneWay := exampleThrusters()
	oneWay[0].Limit, oneWay[1].Limit = api.Range{Lo: 0, Hi: 10}, api.Range{Lo: -10, Hi: 0}
	setting := func(den int, parts ...int) api.ThrustSetting { return api.ThrustSetting{Den: den, Parts: parts} }
	miss := func(den, x, y, m int) api.ThrustMiss { return api.ThrustMiss{Den: den, Given: [3]int{x, y, m}} }
	for _, c := range []struct {
		name      string
		thrusters []api.Thruster
		wanted    [3]int
		setting   api.ThrustSetting
		given     api.ThrustMiss
	}{
		{"example 3", exampleThrusters(), [3]int{40, 0, 0}, setting(1, 10, 10, 0), miss(1, 20, 0, 0)},
		{"example 4", exampleThrusters(), [3]int{20, 0, 8}, setting(5, 34, 50, 0), miss(5, 84, 0, 32)},
		{"reached", exampleThrusters(), [3]int{8, -4, 4}, setting(1, 3, 5, -4), miss(1, 8, -4, 4)},
		{"reached by halves", exampleThrusters(), [3]int{5, 0, 0}, setting(2, 5, 5, 0), miss(1, 5, 0, 0)},
		{"reached at limits", exampleThrusters(), [3]int{-20, 10, 0}, setting(1, -10, -10, 10), miss(1, -20, 10, 0)},
		{"nothing", exampleThrusters(), [3]int{}, setting(1, 0, 0, 0), miss(1, 0, 0, 0)},
		{"everything too great", exampleThrusters(), [3]int{1000, -1000, 1000}, setting(1, -10, 10, -10), miss(1, 0, -10, 40)},
		{"one has limits of 0 to 0", still, [3]int{5, 3, 0}, setting(1, 1, 0, 3), miss(1, 1, 3, -2)},
		{"ahead, and back", oneWay, [3]int{5, 0, 0}, setting(1, 1, 0, 0), miss(1, 1, 0, -2)},
		{"one alone", exampleThrusters()[:1], [3]int{1, 1, 1}, setting(5, -1), miss(5, -1, 0, 2)},
		{"nothing is nearer than 0", exampleThrusters()[:1], [3]int{4, 7, 2}, setting(1, 0), miss(1, 0, 0, 0)},
		{"great ones", greatThrusters()[:1], [3]int{1000, -1000, -1000}, setting(51, 2000), miss(17, 2000, -2000, -20000)},
	} {
		s, e := thrust.NearestOf(c.thrusters, c.wanted)
		want(t, "NearestOf: "+c.name, s, e, c.setting, api.OK)
		m, e := thrust.MissOf(c.thrusters, c.wanted)
		want(t, "MissOf: "+c.name, m, e, c.given, api.OK)
		i, e := thrust.CheckNearest(c.thrusters, c.wanted, c.setting)
		want(t, "CheckNearest: "+c.name, i, e, 0, api.OK)
	}
}

func TestNearestOfLowRanks(t *testing.T) {
	line := lineThrusters()
	for _, c := range []struct {
		wanted [3]int
		given  api.ThrustMiss
	}{
		{[3]int{7, 0, 0}, api.ThrustMiss{Den: 1, Given: [3]int{7, 0, 0}}},
		{[3]int{7, 5, -3}, api.ThrustMiss{Den: 1, Given: [3]int{7, 0, 0}}},
		{[3]int{40, 0, 0}, api.ThrustMiss{Den: 1, Given: [3]int{40, 0, 0}}},
		{[3]int{-41, 1, 0}, api.ThrustMiss{Den: 1, Given: [3]int{-40, 0, 0}}},
		{[3]int{}, api.ThrustMiss{Den: 1}},
	} {
		m, e := thrust.MissOf(line, c.wanted)
		want(t, "MissOf in a line", m, e, c.given, api.OK)
		s, e := thrust.NearestOf(line, c.wanted)
		i, f := thrust.CheckNearest(line, c.wanted, s)
		want(t, "CheckNearest in a line", i, f, 0, e)
	}
	s, e := thrust.NearestOf(slices.Repeat(exampleThrusters()[2:], 5), [3]int{0, 0, 9})
	want(t, "five that need not push rest", s, e, api.ThrustSetting{Den: 1, Parts: make([]int, 5)}, api.OK)
}

func TestErrorsOfNearest(t *testing.T) {
	check := func(name string, l []api.Thruster, wanted [3]int, err api.Errno) {
		s, e := thrust.NearestOf(l, wanted)
		want(t, "NearestOf: "+name, s, e, api.ThrustSetting{}, err)
		m, e := thrust.MissOf(l, wanted)
		want(t, "MissOf: "+name, m, e, api.ThrustMiss{}, err)
		for _, s := range []api.ThrustSetting{exampleLeast(), {}, {Den: 1}, {Den: 1, Parts: []int{99, 99, 99}}} {
			i, e := thrust.CheckNearest(l, wanted, s)
			want(t, "CheckNearest: "+name, i, e, 0, err)
		}
	}
	for _, bad := range allBadThrusters() {
		check(bad.name, bad.thrusters, [3]int{8, -4, 4}, bad.err)
		check(bad.name+", a bad wanted force", bad.thrusters, [3]int{1001, 0, 0}, bad.err)
	}
	for _, wanted := range badNumbers(1000) {
		check("a bad wanted force", exampleThrusters(), wanted, api.ErrRange)
	}
	for _, bad := range badSettings() {
		i, e := thrust.CheckNearest(exampleThrusters(), [3]int{8, -4, 4}, bad.setting)
		want(t, "CheckNearest: "+bad.name, i, e, 0, bad.err)
	}
}

func TestCheckNearest(t *testing.T) {
	l := exampleThrusters()
	twice := append(exampleThrusters(), api.Thruster{Direction: [2]int{0, 1}, Limit: l[2].Limit})
	still := exampleThrusters()
	still[0].Limit, still[2].Limit = api.Range{}, api.Range{}
	setting := func(den int, parts ...int) api.ThrustSetting { return api.ThrustSetting{Den: den, Parts: parts} }
	const great, den = 1000000000000, 999999999
	for _, c := range []struct {
		name      string
		thrusters []api.Thruster
		wanted    [3]int
		setting   api.ThrustSetting
		index     int
		err       api.Errno
	}{
		{"the nearest", l, [3]int{40, 0, 0}, setting(1, 10, 10, 0), 0, api.OK},
		{"any nearest one", twice, [3]int{8, -4, 4}, setting(1, 3, 5, 6, -10), 0, api.OK},
		{"any nearest one by fractions", twice, [3]int{8, -4, 4}, setting(den, 3*den, 5*den, -1, 1-4*den), 0, api.OK},
		{"the first beyond limits", l, [3]int{8, -4, 4}, setting(1, 3, 11, -11), 1, api.ErrBreak},
		{"just beyond a limit", l, [3]int{40, 0, 0}, setting(den, 10*den, 10*den+1, 0), 1, api.ErrBreak},
		{"just below a limit", l, [3]int{40, 0, 0}, setting(den, -10*den-1, 0, 0), 0, api.ErrBreak},
		{"all limits before gradients", l, [3]int{40, 0, 0}, setting(1, 9, 10, 11), 2, api.ErrBreak},
		{"great parts", l, [3]int{40, 0, 0}, setting(1, 0, 0, -great), 2, api.ErrBreak},
		{"great fractions", l, [3]int{1000, 1000, -1000}, setting(den, 10*den, 10*den, 10*den-1), 1, api.ErrProof},
		{"more by the first one", l, [3]int{40, 0, 0}, setting(1, 9, 10, 0), 0, api.ErrProof},
		{"more by the second one", l, [3]int{40, 0, 0}, setting(1, 10, 9, 0), 1, api.ErrProof},
		{"less by the last one", l, [3]int{40, 0, 0}, setting(1, 10, 10, 1), 2, api.ErrProof},
		{"more by the last one", l, [3]int{40, 0, 0}, setting(1, 10, 10, -1), 2, api.ErrProof},
		{"all, at the wrong limits", l, [3]int{40, 0, 0}, setting(1, -10, -10, 0), 0, api.ErrProof},
		{"gradients from 0 on at Lo", l, [3]int{-40, -40, 0}, setting(1, -10, -10, -10), 0, api.OK},
		{"gradients to 0 at Hi", l, [3]int{40, 40, 0}, setting(1, 10, 10, 10), 0, api.OK},
		{"a gradient below 0 at Lo", l, [3]int{-20, 0, 0}, setting(1, -10, -10, -10), 2, api.ErrProof},
		{"a gradient above 0 at Hi", l, [3]int{20, 0, 0}, setting(1, 10, 10, 10), 2, api.ErrProof},
		{"any gradient if both limits are equal", still, [3]int{9, 9, 18}, setting(1, 0, 9, 0), 0, api.OK},
		{"any gradient if both limits are equal, back", still, [3]int{-9, -9, -18}, setting(1, 0, -9, 0), 0, api.OK},
		{"near, with equal limits", still, [3]int{9, 9, 18}, setting(1, 0, 8, 0), 1, api.ErrProof},
		{"7 is not 34/5", l, [3]int{20, 0, 8}, setting(1, 7, 10, 0), 0, api.ErrProof},
		{"34/5", l, [3]int{20, 0, 8}, setting(5, 34, 50, 0), 0, api.OK},
		{"the denominator counts", l, [3]int{8, -4, 4}, setting(2, 3, 5, -4), 1, api.ErrProof},
	} {
		i, e := thrust.CheckNearest(c.thrusters, c.wanted, c.setting)
		want(t, c.name, i, e, c.index, c.err)
	}
}

// distance is the sum of the squares of the differences of what is given, divided by den, and what is wanted.
func distance(given [3]int, den int, wanted [3]int) *big.Rat {
	sum := ratio(0, 1)
	for k, n := range given {
		d := ratio(n-wanted[k]*den, den)
		sum.Add(sum, d.Mul(d, d))
	}
	return sum
}

// isNearest is whether what is given is the nearest: no corner of what can be given lies ahead on the way to what is wanted.
func isNearest(l []api.Thruster, wanted [3]int, given [3]*big.Rat) bool {
	for _, corner := range corners(l) {
		sum := ratio(0, 1)
		for k, n := range forceOf(l, corner) {
			ahead := new(big.Rat).Sub(ratio(n, 1), given[k])
			left := new(big.Rat).Sub(ratio(wanted[k], 1), given[k])
			sum.Add(sum, ahead.Mul(ahead, left))
		}
		if sum.Sign() > 0 {
			return false
		}
	}
	return true
}

// isWithin is whether a setting of fractions lies within limits.
func isWithin(l []api.Thruster, s api.ThrustSetting) bool {
	for i, part := range s.Parts {
		n := ratio(part, s.Den)
		if n.Cmp(ratio(l[i].Limit.Lo, 1)) < 0 || n.Cmp(ratio(l[i].Limit.Hi, 1)) > 0 {
			return false
		}
	}
	return true
}

func TestNearestByItsDefinition(t *testing.T) {
	r := newRandom()
	missed := 0
	for range 2000 {
		l := randomThrusters(r, between(r, 1, 5))
		wanted := randomWanted(r, l)
		s, e := thrust.NearestOf(l, wanted)
		m, f := thrust.MissOf(l, wanted)
		if e != api.OK || f != api.OK || len(s.Parts) != len(l) || !isLowest(s.Den, s.Parts...) || !isLowest(m.Den, m.Given[:]...) {
			t.Fatalf("%v for %v: %v, error %d, %v, error %d", l, wanted, s, e, m, f)
		}
		given := givenBy(l, s)
		if !isWithin(l, s) || !isNearest(l, wanted, given) {
			t.Fatalf("%v for %v: %v is not a nearest setting", l, wanted, s)
		}
		for k, n := range given {
			if n.Cmp(ratio(m.Given[k], m.Den)) != 0 {
				t.Fatalf("%v for %v: %v gives %v, not %v", l, wanted, s, given, m)
			}
		}
		i, e := thrust.CheckNearest(l, wanted, s)
		want(t, "CheckNearest of NearestOf", i, e, 0, api.OK)
		if m.Given != wanted || m.Den != 1 {
			missed++
		}
	}
	if missed < 500 || missed > 1500 {
		t.Errorf("%d of 2000 are missed: too few of one kind are tested", missed)
	}
}

func TestNoWholeSettingIsNearer(t *testing.T) {
	r := newRandom()
	for range 150 {
		l := small(r, 2)
		wanted := randomWanted(r, l)
		m, e := thrust.MissOf(l, wanted)
		least := distance(m.Given, m.Den, wanted)
		for _, setting := range everySetting(l) {
			if distance(forceOf(l, setting), 1, wanted).Cmp(least) < 0 || e != api.OK {
				t.Fatalf("%v for %v: %v is nearer than %v, error %d", l, wanted, setting, m, e)
			}
		}
	}
}

func TestNearestGivenIsWantedIfReachable(t *testing.T) {
	r := newRandom()
	reached := 0
	for range 1500 {
		l := spanning(r)
		wanted := randomWanted(r, l)
		m, _ := thrust.MissOf(l, wanted)
		is, e := thrust.IsReachable(l, wanted)
		want(t, "IsReachable", is, e, m == api.ThrustMiss{Den: 1, Given: wanted}, api.OK)
		if is {
			reached++
		}
	}
	if reached < 200 || reached > 1300 {
		t.Errorf("%d of 1500 are reached: too few of one kind are tested", reached)
	}
}

// stays is whether a number is the best one if all others stay: the lowest point of the parabola of the distance, moved into its limits.
func stays(l []api.Thruster, wanted [3]int, s api.ThrustSetting, i int) bool {
	given := givenBy(l, s)
	column := columnOf(l, i)
	slope := ratio(0, 1)
	for k, n := range column {
		d := new(big.Rat).Sub(given[k], ratio(wanted[k], 1))
		slope.Add(slope, d.Mul(d, ratio(n, 1)))
	}
	now := ratio(s.Parts[i], s.Den)
	best := new(big.Rat).Sub(now, slope.Quo(slope, ratio(product(column, column), 1)))
	if low := ratio(l[i].Limit.Lo, 1); best.Cmp(low) < 0 {
		best = low
	}
	if high := ratio(l[i].Limit.Hi, 1); best.Cmp(high) > 0 {
		best = high
	}
	return best.Cmp(now) == 0
}

// fractionsIn is a random setting of fractions within limits, in lowest terms. Many of its numbers are ends of limits, or as they were.
func fractionsIn(r *rand.Rand, l []api.Thruster, s api.ThrustSetting) api.ThrustSetting {
	times := between(r, 1, 4)
	den := s.Den * times
	parts := make([]int, len(l))
	for i, t := range l {
		switch r.IntN(4) {
		case 0:
			parts[i] = den * t.Limit.Lo
		case 1:
			parts[i] = den * t.Limit.Hi
		case 2:
			parts[i] = s.Parts[i] * times
		case 3:
			parts[i] = between(r, den*t.Limit.Lo, den*t.Limit.Hi)
		}
	}
	by := new(big.Int).SetInt64(int64(den))
	for _, n := range parts {
		by.GCD(nil, nil, by, new(big.Int).Abs(big.NewInt(int64(n))))
	}
	for i := range parts {
		parts[i] /= int(by.Int64())
	}
	return api.ThrustSetting{Den: den / int(by.Int64()), Parts: parts}
}

func TestOnlyNearestSettingsAreAccepted(t *testing.T) {
	r := newRandom()
	accepted, refused := 0, 0
	for range 3000 {
		l := randomThrusters(r, between(r, 1, 5))
		wanted := randomWanted(r, l)
		nearest, _ := thrust.NearestOf(l, wanted)
		s := fractionsIn(r, l, nearest)
		bad := -1
		for i := range l {
			if !stays(l, wanted, s, i) {
				bad = i
				break
			}
		}
		i, e := thrust.CheckNearest(l, wanted, s)
		if (bad < 0) != isNearest(l, wanted, givenBy(l, s)) {
			t.Fatalf("%v for %v: both definitions of the nearest differ for %v", l, wanted, s)
		}
		if bad < 0 {
			want(t, "a nearest setting", i, e, 0, api.OK)
			accepted++
			continue
		}
		want(t, "another setting", i, e, bad, api.ErrProof)
		refused++
	}
	if accepted < 300 || refused < 300 {
		t.Errorf("%d accepted, %d refused: too few of one kind are tested", accepted, refused)
	}
}

// TestNearestGivenIsTheOnlyOne has the thrusters in other orders.
func TestNearestGivenIsTheOnlyOne(t *testing.T) {
	r := newRandom()
	for range 500 {
		l := randomThrusters(r, between(r, 2, 5))
		wanted := randomWanted(r, l)
		m, e := thrust.MissOf(l, wanted)
		other := slices.Clone(l)
		r.Shuffle(len(other), func(i, j int) { other[i], other[j] = other[j], other[i] })
		n, f := thrust.MissOf(other, wanted)
		want(t, "MissOf in another order", n, f, m, e)
	}
}
