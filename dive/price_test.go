package dive_test

import (
	"fmt"
	"math"
	"math/big"
	"math/rand/v2"
	"slices"
	"testing"

	"moonpool/api"
	"moonpool/dive"
)

// P8.4 (BoundBy, BestPrice), P8.10

// poorSite and poorState are those of example 5, from which the vehicle can return.
func poorSite() api.DiveSite { return changed(func(d *api.DiveSite) { d.Home[0] = 0 }) }

func poorState() api.DiveState { return stateOf(0, 0, 60, 6) }

func TestBoundBy(t *testing.T) {
	for _, c := range []struct {
		name         string
		site         api.DiveSite
		state        api.DiveState
		price, bound api.Frac
	}{
		{"example 5", poorSite(), poorState(), fracOf(5, 3), fracOf(260, 3)},
		{"example 5", poorSite(), poorState(), fracOf(2, 1), fracOf(90, 1)},
		{"example 5", poorSite(), poorState(), fracOf(0, 1), fracOf(120, 1)},
		{"example 5", poorSite(), poorState(), fracOf(3, 1), fracOf(120, 1)},
		{"lowest terms", poorSite(), poorState(), fracOf(1, 4), fracOf(115, 1)},
		{"without a task that is done", poorSite(), stateOf(0, 0, 60, 6, 1), fracOf(2, 1), fracOf(80, 1)},
		{"without tasks", poorSite(), stateOf(0, 0, 60, 6, 0, 1, 2), fracOf(2, 3), fracOf(80, 3)},
		{"without tasks and power", poorSite(), stateOf(0, 0, 20, 6, 0, 1, 2), fracOf(7, 3), zero},
		{"the least price", poorSite(), poorState(), fracOf(1, 10000), fracOf(59999, 500)},
		{"the greatest price", poorSite(), poorState(), fracOf(10000, 1), fracOf(400000, 1)},
		{"the greatest bound", changed(func(d *api.DiveSite) { d.Reserve, d.Home[0] = 0, 0 }), stateOf(0, 0, 100000000, 6), fracOf(10000, 1), fracOf(1000000000000, 1)},
	} {
		b, e := dive.BoundBy(c.site, c.state, c.price)
		want(t, fmt.Sprint("BoundBy ", c.price, ": ", c.name), b, e, c.bound, api.OK)
	}
	for _, c := range []struct {
		price api.Frac
		err   api.Errno
	}{
		{fracOf(2, 4), api.ErrForm},
		{fracOf(0, 2), api.ErrForm},
		{fracOf(0, 0), api.ErrForm},
		{fracOf(1, 0), api.ErrForm},
		{fracOf(1, -2), api.ErrForm},
		{fracOf(-1, -2), api.ErrForm},
		{fracOf(-2, 4), api.ErrForm},
		{fracOf(math.MaxInt, 0), api.ErrForm},
		{fracOf(math.MinInt, math.MinInt), api.ErrForm},
		{fracOf(20002, 4), api.ErrForm},
		{fracOf(-1, 2), api.ErrRange},
		{fracOf(math.MinInt, 1), api.ErrRange},
		{fracOf(10001, 1), api.ErrRange},
		{fracOf(1, 10001), api.ErrRange},
		{fracOf(math.MaxInt, 1), api.ErrRange},
		{fracOf(1, math.MaxInt), api.ErrRange},
	} {
		b, e := dive.BoundBy(poorSite(), poorState(), c.price)
		want(t, fmt.Sprint("BoundBy ", c.price), b, e, api.Frac{}, c.err)
		b, e = dive.BoundBy(exampleSite(), poorState(), c.price)
		want(t, fmt.Sprint("BoundBy ", c.price, " from a state that cannot return"), b, e, api.Frac{}, api.ErrRefused)
	}
}

func TestBestPrice(t *testing.T) {
	numbers := func(numbers ...[2]int) api.DiveSite {
		d := poorSite()
		for i, n := range numbers {
			d.Tasks[i].Power, d.Tasks[i].Value = n[0], n[1]
		}
		return d
	}
	done := stateOf(0, 0, 60, 6, 0, 1, 2)
	for _, c := range []struct {
		name         string
		site         api.DiveSite
		state        api.DiveState
		price, bound api.Frac
	}{
		{"example 5", poorSite(), poorState(), fracOf(5, 3), fracOf(260, 3)},
		{"with much power", poorSite(), stateOf(0, 0, 300, 6), zero, fracOf(120, 1)},
		{"with exactly as much power as all need", poorSite(), stateOf(0, 0, 80, 6), zero, fracOf(120, 1)},
		{"without power", poorSite(), stateOf(0, 0, 20, 6), fracOf(3, 1), zero},
		{"without a task that is done", poorSite(), stateOf(0, 0, 39, 6, 1), fracOf(2, 1), fracOf(38, 1)},
		{"the smaller one of two with one bound, beside a task that is done", poorSite(), stateOf(0, 0, 40, 6, 1), fracOf(5, 3), fracOf(40, 1)},
		{"all is done", poorSite(), done, zero, zero},
		{"no tasks", changed(func(d *api.DiveSite) { d.Tasks, d.Home[0] = nil, 0 }), poorState(), zero, zero},
		{"tasks without power", numbers([2]int{0, 50}, [2]int{0, 30}, [2]int{0, 40}), poorState(), zero, fracOf(120, 1)},
		{"a task without power beside others", numbers([2]int{0, 50}, [2]int{80, 40}, [2]int{80, 20}), poorState(), fracOf(1, 2), fracOf(70, 1)},
		{"the smaller one of two with one bound", numbers([2]int{40, 120}, [2]int{10, 10}, [2]int{10, 0}), stateOf(0, 0, 60, 6), fracOf(1, 1), fracOf(120, 1)},
		{"the same in another order", numbers([2]int{10, 10}, [2]int{40, 120}, [2]int{10, 0}), stateOf(0, 0, 60, 6), fracOf(1, 1), fracOf(120, 1)},
		{"a value of 0", numbers([2]int{50, 0}, [2]int{0, 7}, [2]int{9, 0}), poorState(), zero, fracOf(7, 1)},
	} {
		price, bound, e := dive.BestPrice(c.site, c.state)
		want(t, "BestPrice: "+c.name, price, e, c.price, api.OK)
		want(t, "BestPrice: the bound: "+c.name, bound, e, c.bound, api.OK)
	}
	for _, s := range []api.DiveState{poorState(), stateOf(0, 371, 300, 6)} {
		price, bound, e := dive.BestPrice(exampleSite(), s)
		want(t, "BestPrice from a state that cannot return", price, e, api.Frac{}, api.ErrRefused)
		want(t, "its bound", bound, e, api.Frac{}, api.ErrRefused)
	}
}

// boundBy is the bound by a price, as its definition says.
func boundBy(d api.DiveSite, s api.DiveState, price *big.Rat) *big.Rat {
	whole := func(n int) *big.Rat { return big.NewRat(int64(n), 1) }
	sum := new(big.Rat).Mul(price, whole(s.Power-d.Reserve))
	for i, t := range d.Tasks {
		rest := new(big.Rat).Sub(whole(t.Value), new(big.Rat).Mul(price, whole(t.Power)))
		if !slices.Contains(s.Done, i) && rest.Sign() > 0 {
			sum.Add(sum, rest)
		}
	}
	return sum
}

func ratOf(f api.Frac) *big.Rat { return big.NewRat(int64(f.Num), int64(f.Den)) }

// fracIn is a number in lowest terms.
func fracIn(r *big.Rat) api.Frac { return fracOf(int(r.Num().Int64()), int(r.Denom().Int64())) }

// bestPrice is the smallest one of the prices that have the smallest bound.
func bestPrice(d api.DiveSite, s api.DiveState) (price, bound *big.Rat) {
	prices := []*big.Rat{new(big.Rat)}
	for i, t := range d.Tasks {
		if !slices.Contains(s.Done, i) && t.Power > 0 {
			prices = append(prices, big.NewRat(int64(t.Value), int64(t.Power)))
		}
	}
	for _, p := range prices {
		b := boundBy(d, s, p)
		if price == nil || b.Cmp(bound) < 0 || b.Cmp(bound) == 0 && p.Cmp(price) < 0 {
			price, bound = p, b
		}
	}
	return price, bound
}

// withLittlePower is a state with less power, with which the vehicle can still return.
func withLittlePower(r *rand.Rand, d api.DiveSite, s api.DiveState) api.DiveState {
	for n := r.IntN(30); ; n++ {
		less := s
		less.Power = n
		if can, _ := dive.CanReturn(d, less); can || n >= s.Power {
			return less
		}
	}
}

// TestPricesByTheirDefinition compares bounds with exact ones, and with the values of plans.
func TestPricesByTheirDefinition(t *testing.T) {
	r := newRandom()
	sharp, above := 0, 0
	for range 2000 {
		d, s := returningDive(r, 5)
		if r.IntN(2) == 0 {
			s = withLittlePower(r, d, s)
		}
		bestOne, bestBound := bestPrice(d, s)
		price, bound, e := dive.BestPrice(d, s)
		what := fmt.Sprint(d, s)
		want(t, "BestPrice "+what, price, e, fracIn(bestOne), api.OK)
		want(t, "BestPrice: the bound "+what, bound, e, fracIn(bestBound), api.OK)
		_, value, _ := dive.BestPlan(d, s)
		for range 8 {
			p := fracIn(big.NewRat(int64(r.IntN(30)), int64(between(r, 1, 12))))
			b, e := dive.BoundBy(d, s, p)
			want(t, fmt.Sprint("BoundBy ", p, what), b, e, fracIn(boundBy(d, s, ratOf(p))), api.OK)
			if ratOf(b).Cmp(ratOf(bound)) < 0 || ratOf(b).Cmp(big.NewRat(int64(value), 1)) < 0 {
				t.Errorf("%s: the bound %v by %v, the best one %v, and the value %d of a plan", what, b, p, bound, value)
			}
		}
		if ratOf(bound).Cmp(big.NewRat(int64(value), 1)) < 0 {
			t.Errorf("%s: the bound %v, and the value %d of a plan", what, bound, value)
		}
		if bound.Num == value*bound.Den && value > 0 {
			sharp++
		}
		if price.Num > 0 {
			above++
		}
	}
	if sharp < 50 || above < 50 {
		t.Errorf("too few bounds that are values, or prices above 0, are tested: %d, %d", sharp, above)
	}
}

// TestGreatestPrices are those of the greatest numbers.
func TestGreatestPrices(t *testing.T) {
	d := greatSite()
	d.Home = make([]int, 5)
	for i := range d.Tasks {
		d.Tasks[i].Power, d.Tasks[i].Value = 10000-i, 9999-i
	}
	for _, power := range []int{10000, 10001, 40000, 60000, 100000000} {
		s := stateOf(0, 0, power, 0)
		bestOne, bestBound := bestPrice(d, s)
		price, bound, e := dive.BestPrice(d, s)
		want(t, fmt.Sprint("BestPrice with the power ", power), price, e, fracIn(bestOne), api.OK)
		want(t, fmt.Sprint("BestPrice: the bound with the power ", power), bound, e, fracIn(bestBound), api.OK)
	}
}
