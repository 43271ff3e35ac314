package thrust_test

import (
	"math"
	"math/big"
	"slices"
	"testing"

	"moonpool/api"
	"moonpool/thrust"
)

// P3.2, P3.8

func exampleLeast() api.ThrustSetting { return api.ThrustSetting{Den: 1, Parts: []int{3, 5, -4}} }

func examplePrices() api.ThrustPrices { return api.ThrustPrices{Den: 2, Parts: [3]int{8, -8, 1}} }

func TestLeastOf(t *testing.T) {
	four := append(exampleThrusters(), api.Thruster{Direction: [2]int{0, 1}})
	for _, c := range []struct {
		name      string
		thrusters []api.Thruster
		wanted    [3]int
		setting   api.ThrustSetting
		prices    api.ThrustPrices
	}{
		{"example", exampleThrusters(), [3]int{8, -4, 4}, exampleLeast(), examplePrices()},
		{"nothing", exampleThrusters(), [3]int{}, api.ThrustSetting{Den: 1, Parts: []int{0, 0, 0}}, api.ThrustPrices{Den: 1}},
		{"halves", exampleThrusters(), [3]int{1, 0, 0}, api.ThrustSetting{Den: 2, Parts: []int{1, 1, 0}}, api.ThrustPrices{Den: 2, Parts: [3]int{1, 0, 0}}},
		{"a moment", exampleThrusters(), [3]int{0, 0, 1}, api.ThrustSetting{Den: 4, Parts: []int{-1, 1, 0}}, api.ThrustPrices{Den: 8, Parts: [3]int{0, 0, 1}}},
		{"beyond limits", exampleThrusters(), [3]int{1000, -1000, 0}, api.ThrustSetting{Den: 1, Parts: []int{500, 500, -1000}}, api.ThrustPrices{Den: 1, Parts: [3]int{500, -1000, 0}}},
		{"shared by two of a kind", four, [3]int{8, -4, 4}, api.ThrustSetting{Den: 1, Parts: []int{3, 5, -2, -2}}, api.ThrustPrices{Den: 2, Parts: [3]int{8, -4, 1}}},
		{"a determinant below 0", []api.Thruster{exampleThrusters()[1], exampleThrusters()[0], exampleThrusters()[2]}, [3]int{8, -4, 4},
			api.ThrustSetting{Den: 1, Parts: []int{5, 3, -4}}, examplePrices()},
	} {
		s, e := thrust.LeastOf(c.thrusters, c.wanted)
		want(t, "LeastOf: "+c.name, s, e, c.setting, api.OK)
		x, e := thrust.PricesOf(c.thrusters, c.wanted)
		want(t, "PricesOf: "+c.name, x, e, c.prices, api.OK)
		i, e := thrust.CheckLeast(c.thrusters, c.wanted, s, x)
		want(t, "CheckLeast: "+c.name, i, e, 0, api.OK)
	}
}

func TestErrorsOfLeast(t *testing.T) {
	check := func(name string, l []api.Thruster, wanted [3]int, err api.Errno) {
		s, e := thrust.LeastOf(l, wanted)
		want(t, "LeastOf: "+name, s, e, api.ThrustSetting{}, err)
		x, e := thrust.PricesOf(l, wanted)
		want(t, "PricesOf: "+name, x, e, api.ThrustPrices{}, err)
		i, e := thrust.CheckLeast(l, wanted, exampleLeast(), examplePrices())
		want(t, "CheckLeast: "+name, i, e, 0, err)
		i, e = thrust.CheckLeast(l, wanted, api.ThrustSetting{}, api.ThrustPrices{})
		want(t, "CheckLeast of nothing: "+name, i, e, 0, err)
	}
	for _, bad := range allBadThrusters() {
		check(bad.name, bad.thrusters, [3]int{8, -4, 4}, bad.err)
		check(bad.name+", a bad wanted force", bad.thrusters, [3]int{1001, 0, 0}, bad.err)
	}
	for _, wanted := range badNumbers(1000) {
		check("a bad wanted force", exampleThrusters(), wanted, api.ErrRange)
		check("a bad wanted force of a low rank", lineThrusters(), wanted, api.ErrRange)
	}
	for _, l := range lowRanks() {
		check("a low rank", l, [3]int{8, -4, 4}, api.ErrOpen)
		check("a low rank, nothing wanted", l, [3]int{}, api.ErrOpen)
	}
}

// lowRanks are thrusters whose rank is less than 3.
func lowRanks() [][]api.Thruster {
	l := exampleThrusters()
	through := func(x, y int) api.Thruster { return api.Thruster{Direction: [2]int{x, y}, Limit: l[0].Limit} }
	return [][]api.Thruster{
		lineThrusters(),
		l[:1],
		l[:2],
		l[1:],
		slices.Repeat(l[:1], 5),
		slices.Repeat(l[:2], 2),
		{through(1, 0), through(0, 1), through(3, -2), through(-1, -1), through(2, 3)},
		{l[0], l[1], {Direction: [2]int{1, 0}, Place: [2]int{3, 5}}, {Direction: [2]int{-2, 0}, Place: [2]int{0, -4}}},
	}
}

// badPrices are prices that there are not, and their errors.
type badPrices struct {
	name   string
	prices api.ThrustPrices
	err    api.Errno
}

func allBadPrices() []badPrices {
	parts := func(x, y, m int) [3]int { return [3]int{x, y, m} }
	return []badPrices{
		{"nothing", api.ThrustPrices{}, api.ErrRange},
		{"Den 0", api.ThrustPrices{Parts: parts(8, -8, 1)}, api.ErrRange},
		{"Den -2", api.ThrustPrices{Den: -2, Parts: parts(8, -8, 1)}, api.ErrRange},
		{"Den too great", api.ThrustPrices{Den: 1000000001, Parts: parts(8, -8, 1)}, api.ErrRange},
		{"Den the least int", api.ThrustPrices{Den: math.MinInt, Parts: parts(8, -8, 1)}, api.ErrRange},
		{"the first too great", api.ThrustPrices{Den: 2, Parts: parts(1000000000001, -8, 1)}, api.ErrRange},
		{"one too small", api.ThrustPrices{Den: 2, Parts: parts(8, -1000000000001, 1)}, api.ErrRange},
		{"the last the least int", api.ThrustPrices{Den: 2, Parts: parts(8, -8, math.MinInt)}, api.ErrRange},
		{"range before form", api.ThrustPrices{Den: 2, Parts: parts(2000000000000, 0, 0)}, api.ErrRange},
		{"all divided by 2", api.ThrustPrices{Den: 4, Parts: parts(16, -16, 2)}, api.ErrForm},
		{"0 divided by 2", api.ThrustPrices{Den: 2}, api.ErrForm},
		{"the greatest parts", api.ThrustPrices{Den: 1000000000, Parts: parts(1000000000000, 0, 0)}, api.ErrForm},
	}
}

func TestCheckLeast(t *testing.T) {
	l, wanted := exampleThrusters(), [3]int{8, -4, 4}
	for _, bad := range badSettings() {
		for _, x := range []api.ThrustPrices{examplePrices(), {}, {Den: 2}} {
			i, e := thrust.CheckLeast(l, wanted, bad.setting, x)
			want(t, "CheckLeast of a bad setting: "+bad.name, i, e, 0, bad.err)
		}
	}
	for _, bad := range allBadPrices() {
		for _, s := range []api.ThrustSetting{exampleLeast(), {Den: 1, Parts: []int{0, 0, 0}}} {
			i, e := thrust.CheckLeast(l, wanted, s, bad.prices)
			want(t, "CheckLeast of bad prices: "+bad.name, i, e, 0, bad.err)
		}
	}
	four := append(exampleThrusters(), api.Thruster{Direction: [2]int{0, 1}})
	setting := func(den int, parts ...int) api.ThrustSetting { return api.ThrustSetting{Den: den, Parts: parts} }
	prices := func(den, x, y, m int) api.ThrustPrices { return api.ThrustPrices{Den: den, Parts: [3]int{x, y, m}} }
	const great, den = 1000000000000, 999999999
	for _, c := range []struct {
		name      string
		thrusters []api.Thruster
		setting   api.ThrustSetting
		prices    api.ThrustPrices
		index     int
		err       api.Errno
	}{
		{"X is not given", l, setting(1, 3, 4, -4), examplePrices(), 0, api.ErrProof},
		{"Y is not given", l, setting(1, 3, 5, 4), examplePrices(), 1, api.ErrProof},
		{"the moment is not given", l, setting(1, 5, 3, -4), examplePrices(), 2, api.ErrProof},
		{"the denominator counts", l, setting(2, 3, 5, -4), examplePrices(), 0, api.ErrProof},
		{"the first coordinate", l, setting(1, 0, 0, 0), prices(1, 0, 0, 0), 0, api.ErrProof},
		{"proof before clash", l, setting(1, 3, 5, 4), prices(1, 0, 0, 0), 1, api.ErrProof},
		{"great parts", l, setting(den, great, -great, great), examplePrices(), 0, api.ErrProof},
		{"no prices", l, exampleLeast(), prices(1, 0, 0, 0), 0, api.ErrClash},
		{"the opposite of prices", l, exampleLeast(), prices(2, -8, 8, -1), 0, api.ErrClash},
		{"prices for the first one alone", l, exampleLeast(), prices(1, 3, 0, 0), 1, api.ErrClash},
		{"prices for the first two", l, exampleLeast(), prices(2, 8, 8, 1), 2, api.ErrClash},
		{"the denominator of prices counts", l, exampleLeast(), prices(3, 8, -8, 1), 0, api.ErrClash},
		{"great prices", l, exampleLeast(), prices(den, great, -great, great), 0, api.ErrClash},
		{"given, but not the least", four, setting(1, 3, 5, -4, 0), prices(2, 8, -4, 1), 2, api.ErrClash},
		{"given by great numbers", four, setting(1, 3, 5, great-4, -great), prices(2, 8, -4, 1), 2, api.ErrClash},
		{"the least of four", four, setting(1, 3, 5, -2, -2), prices(2, 8, -4, 1), 0, api.OK},
	} {
		i, e := thrust.CheckLeast(c.thrusters, wanted, c.setting, c.prices)
		want(t, c.name, i, e, c.index, c.err)
	}
}

// TestProductsDoNotOverflow has a number and a price whose fractions differ, while their products with each other's denominators are equal modulo 2^64.
func TestProductsDoNotOverflow(t *testing.T) {
	l := append(exampleThrusters(), api.Thruster{Direction: [2]int{0, 1}})
	const den = 999999937
	number := new(big.Int).Lsh(big.NewInt(1), 64)
	number.Div(number, big.NewInt(den)).Add(number, big.NewInt(1))
	n := int(number.Int64())
	price := n * den
	if price <= 0 || price >= den {
		t.Fatalf("%d times %d has not the remainder of a price: %d", n, den, price)
	}
	s := api.ThrustSetting{Den: 1, Parts: []int{0, 0, n, -n}}
	i, e := thrust.CheckLeast(l, [3]int{}, s, api.ThrustPrices{Den: den, Parts: [3]int{0, price, 0}})
	want(t, "CheckLeast", i, e, 2, api.ErrClash)
}

// nullSettings give nothing: for each four columns, the determinants of three of them each. Together they span all settings that give nothing.
func nullSettings(l []api.Thruster) [][]int {
	var all [][]int
	for out := range l {
		var four []int
		for i := range l {
			if len(l) == 4 || i != out {
				four = append(four, i)
			}
		}
		if len(four) != 4 {
			return nil
		}
		setting := make([]int, len(l))
		for k, i := range four {
			three := slices.Delete(slices.Clone(four), k, k+1)
			setting[i] = product(columnOf(l, three[0]), cross(columnOf(l, three[1]), columnOf(l, three[2])))
			if k%2 == 1 {
				setting[i] = -setting[i]
			}
		}
		all = append(all, setting)
	}
	return all
}

func wholeRats(n [3]int) [3]string {
	return [3]string{ratio(n[0], 1).String(), ratio(n[1], 1).String(), ratio(n[2], 1).String()}
}

func ratStrings(n [3]*big.Rat) [3]string {
	return [3]string{n[0].String(), n[1].String(), n[2].String()}
}

func TestLeastByItsDefinition(t *testing.T) {
	r := newRandom()
	for range 2000 {
		l := spanning(r)
		wanted := [3]int{between(r, -1000, 1000), between(r, -20, 20), between(r, -1000, 1000)}
		s, e := thrust.LeastOf(l, wanted)
		x, f := thrust.PricesOf(l, wanted)
		if e != api.OK || f != api.OK || !isLowest(s.Den, s.Parts...) || !isLowest(x.Den, x.Parts[:]...) {
			t.Fatalf("%v for %v: %v, error %d, %v, error %d", l, wanted, s, e, x, f)
		}
		if ratStrings(givenBy(l, s)) != wholeRats(wanted) {
			t.Fatalf("%v: %v does not give %v", l, s, wanted)
		}
		for _, n := range nullSettings(l) {
			if forceOf(l, n) != [3]int{} {
				t.Fatalf("%v: %v gives something", l, n)
			}
			sum := 0
			for i, part := range s.Parts {
				sum += part * n[i]
			}
			if sum != 0 {
				t.Fatalf("%v: %v is not the least setting: it can be moved along %v", l, s, n)
			}
		}
		for i, part := range s.Parts {
			if ratio(product(columnOf(l, i), x.Parts), x.Den).Cmp(ratio(part, s.Den)) != 0 {
				t.Fatalf("%v: %v are not the prices of %v", l, x, s)
			}
		}
	}
}

func TestOnlyTheLeastIsAccepted(t *testing.T) {
	r := newRandom()
	for range 1000 {
		l := spanning(r)
		wanted := randomWanted(r, l)
		s, _ := thrust.LeastOf(l, wanted)
		x, _ := thrust.PricesOf(l, wanted)
		i, e := thrust.CheckLeast(l, wanted, s, x)
		want(t, "CheckLeast", i, e, 0, api.OK)
		for i := range s.Parts {
			other := api.ThrustSetting{Den: s.Den, Parts: slices.Clone(s.Parts)}
			other.Parts[i] += between(r, 1, 3)
			if _, e := thrust.CheckLeast(l, wanted, other, x); e != api.ErrProof && e != api.ErrForm {
				t.Errorf("%v, %v: %v was not refused: %d", l, wanted, other, e)
			}
		}
		for k := range x.Parts {
			other := x
			other.Parts[k] += between(r, 1, 3)
			if _, e := thrust.CheckLeast(l, wanted, s, other); e != api.ErrClash && e != api.ErrForm {
				t.Errorf("%v, %v: the prices %v were not refused: %d", l, wanted, other, e)
			}
		}
		double := api.ThrustSetting{Den: 2 * s.Den, Parts: slices.Clone(s.Parts)}
		for i := range double.Parts {
			double.Parts[i] *= 2
		}
		i, e = thrust.CheckLeast(l, wanted, double, x)
		want(t, "CheckLeast of its double", i, e, 0, api.ErrForm)
		for _, n := range nullSettings(l) {
			refuseMoved(t, l, wanted, s, x, n)
		}
	}
}

// refuseMoved refuses a setting that gives the same, but is not the least one.
func refuseMoved(t *testing.T, l []api.Thruster, wanted [3]int, s api.ThrustSetting, x api.ThrustPrices, by []int) {
	t.Helper()
	first := slices.IndexFunc(by, func(n int) bool { return n != 0 })
	if first < 0 {
		return
	}
	moved := api.ThrustSetting{Den: s.Den, Parts: slices.Clone(s.Parts)}
	for i, n := range by {
		moved.Parts[i] += n * s.Den
	}
	i, e := thrust.CheckLeast(l, wanted, moved, x)
	want(t, "CheckLeast of another setting that gives the same", i, e, first, api.ErrClash)
}

func TestNoWholeSettingIsLess(t *testing.T) {
	r := newRandom()
	for range 3000 {
		l := spanning(r)
		setting := settingIn(r, l)
		wanted := forceOf(l, setting)
		if max(wanted[0], -wanted[0], wanted[1], -wanted[1], wanted[2], -wanted[2]) > 1000 {
			continue
		}
		s, e := thrust.LeastOf(l, wanted)
		if e != api.OK {
			t.Fatalf("LeastOf: error %d", e)
		}
		less, least := 0, ratio(0, 1)
		for i, n := range setting {
			less += n * n
			part := ratio(s.Parts[i], s.Den)
			least.Add(least, part.Mul(part, part))
		}
		if ratio(less, 1).Cmp(least) < 0 {
			t.Errorf("%v: %v is less than %v", l, setting, s)
		}
	}
}
