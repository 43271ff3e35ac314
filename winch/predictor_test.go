package winch_test

import (
	"math"
	"math/big"
	"math/rand/v2"
	"testing"

	"moonpool/api"
	"moonpool/winch"
)

// P2.1, P2.8

func TestCheckSamples(t *testing.T) {
	for _, l := range [][]int{exampleSamples(), {0, 0, 0, 0}, {100, -100, 100, -100}, make([]int, 20)} {
		i, e := winch.CheckSamples(l)
		want(t, "CheckSamples", i, e, 0, api.OK)
	}
	for _, bad := range allBadSamples() {
		i, e := winch.CheckSamples(bad.samples)
		want(t, bad.name, i, e, bad.index, bad.err)
	}
}

func TestPredictorOf(t *testing.T) {
	for _, c := range []struct {
		name      string
		samples   []int
		predictor api.WinchPredictor
		residual  api.Frac
		next      api.Frac
	}{
		{"example", exampleSamples(), api.WinchPredictor{A: 3, B: 2, Den: 3}, api.Frac{Num: 1, Den: 3}, api.Frac{Num: 6, Den: 1}},
		{"a line", []int{1, 2, 3, 4}, api.WinchPredictor{A: 2, B: -1, Den: 1}, api.Frac{Num: 0, Den: 1}, api.Frac{Num: 5, Den: 1}},
		{"sums", []int{1, 1, 2, 3, 5, 8}, api.WinchPredictor{A: 1, B: 1, Den: 1}, api.Frac{Num: 0, Den: 1}, api.Frac{Num: 13, Den: 1}},
		{"a wave", []int{1, 0, -1, 0, 1, 0, -1}, api.WinchPredictor{A: 0, B: -1, Den: 1}, api.Frac{Num: 0, Den: 1}, api.Frac{Num: 0, Den: 1}},
		{"nothing follows", []int{1, 1, 0, 0, 1}, api.WinchPredictor{A: 0, B: 0, Den: 1}, api.Frac{Num: 1, Den: 1}, api.Frac{Num: 0, Den: 1}},
		{"halves", []int{0, 4, 2, 1}, api.WinchPredictor{A: 1, B: 0, Den: 2}, api.Frac{Num: 0, Den: 1}, api.Frac{Num: 1, Den: 2}},
	} {
		p, e := winch.PredictorOf(c.samples)
		want(t, "PredictorOf: "+c.name, p, e, c.predictor, api.OK)
		f, e := winch.ResidualOf(c.samples)
		want(t, "ResidualOf: "+c.name, f, e, c.residual, api.OK)
		f, e = winch.NextBy(p, c.samples)
		want(t, "NextBy: "+c.name, f, e, c.next, api.OK)
	}
}

// ambiguous are samples whose equations have more than one solution.
func ambiguous() [][]int {
	return [][]int{{0, 0, 0, 0}, {1, 2, 4, 8}, {0, 0, 0, 7}, {5, 5, 5, 5, 5}, {1, -1, 1, -1}, {3, 0, 0, 0}, make([]int, 20)}
}

func TestNoOnlyPredictor(t *testing.T) {
	for _, l := range ambiguous() {
		p, e := winch.PredictorOf(l)
		want(t, "PredictorOf", p, e, api.WinchPredictor{}, api.ErrZero)
		f, e := winch.ResidualOf(l)
		want(t, "ResidualOf", f, e, api.Frac{}, api.ErrZero)
	}
}

func TestErrorsOfSamples(t *testing.T) {
	for _, bad := range allBadSamples() {
		p, e := winch.PredictorOf(bad.samples)
		want(t, "PredictorOf: "+bad.name, p, e, api.WinchPredictor{}, bad.err)
		f, e := winch.ResidualOf(bad.samples)
		want(t, "ResidualOf: "+bad.name, f, e, api.Frac{}, bad.err)
		for _, p := range []api.WinchPredictor{{A: 1, Den: 1}, {}, {A: 2, B: 2, Den: 2}} {
			i, e := winch.CheckPredictor(bad.samples, p)
			want(t, "CheckPredictor: "+bad.name, i, e, 0, bad.err)
		}
		f, e = winch.NextBy(api.WinchPredictor{A: 1, Den: 1}, bad.samples)
		want(t, "NextBy: "+bad.name, f, e, api.Frac{}, bad.err)
	}
}

// badPredictor is a predictor that no samples have, and its error.
type badPredictor struct {
	name      string
	predictor api.WinchPredictor
	err       api.Errno
}

func badPredictors() []badPredictor {
	return []badPredictor{
		{"Den 0", api.WinchPredictor{A: 1, B: 1}, api.ErrRange},
		{"nothing", api.WinchPredictor{}, api.ErrRange},
		{"Den -1", api.WinchPredictor{A: 1, B: 1, Den: -1}, api.ErrRange},
		{"Den too great", api.WinchPredictor{A: 1, B: 1, Den: 1000000000001}, api.ErrRange},
		{"Den the least int", api.WinchPredictor{A: 1, Den: math.MinInt}, api.ErrRange},
		{"A too great", api.WinchPredictor{A: 1000000000001, B: 1, Den: 1}, api.ErrRange},
		{"A too small", api.WinchPredictor{A: -1000000000001, B: 1, Den: 1}, api.ErrRange},
		{"A the least int", api.WinchPredictor{A: math.MinInt, Den: 1}, api.ErrRange},
		{"B too great", api.WinchPredictor{B: 1000000000001, Den: 1}, api.ErrRange},
		{"B too small", api.WinchPredictor{B: -1000000000001, Den: 1}, api.ErrRange},
		{"B the least int", api.WinchPredictor{B: math.MinInt, Den: 1}, api.ErrRange},
		{"range before form", api.WinchPredictor{A: 2, B: 2000000000000, Den: 2}, api.ErrRange},
		{"all divided by 5", api.WinchPredictor{A: 5, B: 5, Den: 5}, api.ErrForm},
		{"all divided by 2", api.WinchPredictor{A: -6, B: 4, Den: 2}, api.ErrForm},
		{"0 and 0 by 2", api.WinchPredictor{Den: 2}, api.ErrForm},
		{"the greatest parts", api.WinchPredictor{A: 1000000000000, B: -1000000000000, Den: 1000000000000}, api.ErrForm},
		{"the predictor not in lowest terms", api.WinchPredictor{A: 6, B: 4, Den: 6}, api.ErrForm},
	}
}

func TestErrorsOfPredictors(t *testing.T) {
	for _, bad := range badPredictors() {
		i, e := winch.CheckPredictor(exampleSamples(), bad.predictor)
		want(t, "CheckPredictor: "+bad.name, i, e, 0, bad.err)
		for _, l := range [][]int{exampleSamples(), nil, {101, 0, 0, 0}} {
			f, e := winch.NextBy(bad.predictor, l)
			want(t, "NextBy: "+bad.name, f, e, api.Frac{}, bad.err)
		}
	}
}

func TestCheckPredictor(t *testing.T) {
	for _, c := range []struct {
		name      string
		samples   []int
		predictor api.WinchPredictor
		index     int
		err       api.Errno
	}{
		{"example", exampleSamples(), api.WinchPredictor{A: 3, B: 2, Den: 3}, 0, api.OK},
		{"pairs alone have divisors", []int{0, 4, 2, 1}, api.WinchPredictor{A: 1, B: 0, Den: 2}, 0, api.OK},
		{"neither equation", exampleSamples(), api.WinchPredictor{A: 1, B: 2, Den: 2}, 0, api.ErrProof},
		{"the first one alone", exampleSamples(), api.WinchPredictor{A: 10, B: 0, Den: 7}, 1, api.ErrProof},
		{"the second one alone", exampleSamples(), api.WinchPredictor{A: 13, B: 0, Den: 9}, 0, api.ErrProof},
		{"great parts", exampleSamples(), api.WinchPredictor{A: 1000000000000, B: -1000000000000, Den: 999999999999}, 0, api.ErrProof},
		{"opposite", exampleSamples(), api.WinchPredictor{A: -3, B: -2, Den: 3}, 0, api.ErrProof},
		{"nothing", []int{0, 0, 0, 0}, api.WinchPredictor{A: 0, B: 0, Den: 1}, 0, api.ErrZero},
		{"nothing by anything", []int{0, 0, 0, 0}, api.WinchPredictor{A: 5, B: 3, Den: 2}, 0, api.ErrZero},
		{"doubles by one way", []int{1, 2, 4, 8}, api.WinchPredictor{A: 2, B: 0, Den: 1}, 0, api.ErrZero},
		{"doubles by another way", []int{1, 2, 4, 8}, api.WinchPredictor{A: 0, B: 4, Den: 1}, 0, api.ErrZero},
		{"proof before zero", []int{1, 2, 4, 8}, api.WinchPredictor{A: 1, B: 0, Den: 1}, 0, api.ErrProof},
	} {
		i, e := winch.CheckPredictor(c.samples, c.predictor)
		want(t, c.name, i, e, c.index, c.err)
	}
}

func TestNextByAnyPredictor(t *testing.T) {
	for _, c := range []struct {
		predictor api.WinchPredictor
		samples   []int
		next      api.Frac
	}{
		{api.WinchPredictor{A: 1, B: 2, Den: 7}, []int{9, 9, 9, 3, 4}, api.Frac{Num: 10, Den: 7}},
		{api.WinchPredictor{A: 1, B: -1, Den: 2}, []int{0, 0, 8, 2}, api.Frac{Num: -3, Den: 1}},
		{api.WinchPredictor{A: 0, B: 0, Den: 1}, []int{1, 2, 3, 4}, api.Frac{Num: 0, Den: 1}},
		{api.WinchPredictor{A: 1000000000000, B: -1000000000000, Den: 1}, []int{0, 0, -100, 100}, api.Frac{Num: 200000000000000, Den: 1}},
		{api.WinchPredictor{A: 1, B: 0, Den: 1000000000000}, []int{0, 0, 0, 4}, api.Frac{Num: 1, Den: 250000000000}},
	} {
		f, e := winch.NextBy(c.predictor, c.samples)
		want(t, "NextBy", f, e, c.next, api.OK)
	}
}

func ratio(num, den int) *big.Rat { return big.NewRat(int64(num), int64(den)) }

func fracOf(x *big.Rat) api.Frac {
	return api.Frac{Num: int(x.Num().Int64()), Den: int(x.Denom().Int64())}
}

// squaresLeft is the sum of squares that coefficients leave, by its definition.
func squaresLeft(l []int, a, b *big.Rat) *big.Rat {
	sum := new(big.Rat)
	for i := 2; i < len(l); i++ {
		miss := ratio(l[i], 1)
		miss.Sub(miss, new(big.Rat).Mul(a, ratio(l[i-1], 1)))
		miss.Sub(miss, new(big.Rat).Mul(b, ratio(l[i-2], 1)))
		sum.Add(sum, miss.Mul(miss, miss))
	}
	return sum
}

// leastSquares minimizes the sum of squares, a quadratic function of both coefficients, by completing squares.
// Its parts are found from six of its values.
func leastSquares(l []int) (a, b *big.Rat, only bool) {
	at := func(a, b int) *big.Rat { return squaresLeft(l, ratio(a, 1), ratio(b, 1)) }
	none := at(0, 0)
	sub := func(x, y *big.Rat) *big.Rat { return new(big.Rat).Sub(x, y) }
	mul := func(x, y *big.Rat) *big.Rat { return new(big.Rat).Mul(x, y) }
	half := func(x *big.Rat) *big.Rat { return mul(x, ratio(1, 2)) }
	// none + aa a a + ab a b + bb b b + na a + nb b
	aa := sub(half(new(big.Rat).Add(at(1, 0), at(-1, 0))), none)
	bb := sub(half(new(big.Rat).Add(at(0, 1), at(0, -1))), none)
	na := half(sub(at(1, 0), at(-1, 0)))
	nb := half(sub(at(0, 1), at(0, -1)))
	ab := sub(sub(sub(sub(sub(at(1, 1), none), aa), bb), na), nb)
	det := sub(mul(ratio(4, 1), mul(aa, bb)), mul(ab, ab))
	if det.Sign() == 0 {
		return nil, nil, false
	}
	a = sub(mul(ab, nb), mul(ratio(2, 1), mul(bb, na)))
	b = sub(mul(ab, na), mul(ratio(2, 1), mul(aa, nb)))
	return a.Quo(a, det), b.Quo(b, det), true
}

// randomSamples are small ones, great ones, or extreme ones.
func randomSamples(r *rand.Rand) []int {
	l := numbers(r, between(r, 4, 20), -3, 3)
	switch r.IntN(3) {
	case 0:
		l = numbers(r, between(r, 4, 20), -100, 100)
	case 1:
		for i := range l {
			l[i] = 100 - 200*r.IntN(2)
		}
	}
	return l
}

func TestPredictorsAreTheLeastSquares(t *testing.T) {
	r := newRandom()
	for range 3000 {
		l := randomSamples(r)
		a, b, only := leastSquares(l)
		p, e := winch.PredictorOf(l)
		f, g := winch.ResidualOf(l)
		if !only {
			want(t, "PredictorOf", p, e, api.WinchPredictor{}, api.ErrZero)
			want(t, "ResidualOf", f, g, api.Frac{}, api.ErrZero)
			continue
		}
		if e != api.OK || p.Den < 1 || ratio(p.A, max(p.Den, 1)).Cmp(a) != 0 || ratio(p.B, max(p.Den, 1)).Cmp(b) != 0 {
			t.Fatalf("PredictorOf %v: %v, error %d, want %v, %v", l, p, e, a, b)
		}
		want(t, "ResidualOf", f, g, fracOf(squaresLeft(l, a, b)), api.OK)
		next := new(big.Rat).Add(new(big.Rat).Mul(a, ratio(l[len(l)-1], 1)), new(big.Rat).Mul(b, ratio(l[len(l)-2], 1)))
		f, g = winch.NextBy(p, l)
		want(t, "NextBy", f, g, fracOf(next), api.OK)
	}
}

func TestOnlyThePredictorIsAccepted(t *testing.T) {
	r := newRandom()
	for range 3000 {
		l := randomSamples(r)
		p, e := winch.PredictorOf(l)
		if e != api.OK {
			continue
		}
		i, e := winch.CheckPredictor(l, p)
		want(t, "CheckPredictor of PredictorOf", i, e, 0, api.OK)
		for _, other := range []api.WinchPredictor{
			{A: p.A + between(r, 1, 9), B: p.B, Den: p.Den},
			{A: p.A, B: p.B - between(r, 1, 9), Den: p.Den},
			{A: p.A + between(r, -2, 2), B: p.B + between(r, -2, 2), Den: p.Den + between(r, 1, 2)},
			{A: between(r, -3, 3), B: between(r, -3, 3), Den: between(r, 1, 3)},
		} {
			if ratio(other.A, other.Den).Cmp(ratio(p.A, p.Den)) == 0 && ratio(other.B, other.Den).Cmp(ratio(p.B, p.Den)) == 0 {
				continue
			}
			if _, e := winch.CheckPredictor(l, other); e != api.ErrProof && e != api.ErrForm {
				t.Errorf("CheckPredictor of %v, %v: error %d", l, other, e)
			}
		}
		doubled := api.WinchPredictor{A: 2 * p.A, B: 2 * p.B, Den: 2 * p.Den}
		i, e = winch.CheckPredictor(l, doubled)
		want(t, "CheckPredictor of its double", i, e, 0, api.ErrForm)
	}
}

func TestWholeRecurrences(t *testing.T) {
	r := newRandom()
	exact := 0
	for range 3000 {
		a, b := between(r, -2, 2), between(r, -2, 2)
		l := numbers(r, 2, -5, 5)
		for len(l) < between(r, 4, 12) {
			l = append(l, a*l[len(l)-1]+b*l[len(l)-2])
		}
		if _, e := winch.CheckSamples(l); e != api.OK {
			continue
		}
		p, e := winch.PredictorOf(l)
		if e == api.ErrZero {
			continue
		}
		exact++
		want(t, "PredictorOf", p, e, api.WinchPredictor{A: a, B: b, Den: 1}, api.OK)
		f, e := winch.ResidualOf(l)
		want(t, "ResidualOf", f, e, api.Frac{Num: 0, Den: 1}, api.OK)
	}
	if exact < 500 {
		t.Errorf("%d recurrences alone were tested", exact)
	}
}

func TestNoWholeCoefficientsAreBetter(t *testing.T) {
	r := newRandom()
	for range 300 {
		l := randomSamples(r)
		f, e := winch.ResidualOf(l)
		if e != api.OK {
			continue
		}
		for a := -4; a <= 4; a++ {
			for b := -4; b <= 4; b++ {
				if squaresLeft(l, ratio(a, 1), ratio(b, 1)).Cmp(ratio(f.Num, f.Den)) < 0 {
					t.Fatalf("%v: %d and %d leave less than %v", l, a, b, f)
				}
			}
		}
	}
}
