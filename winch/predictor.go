package winch

import (
	"iter"

	"moonpool/api"
	"moonpool/rules"
)

// minSamples is how many samples a predictor needs.
const minSamples = 4

// equation says that the coefficients a and b of a predictor make of[0] a + of[1] b the sum.
type equation struct {
	of  [2]int
	sum int
}

// CheckSamples is in P2.1.
func CheckSamples(l []int) (int, api.Errno) {
	return rules.CheckList(l, minSamples, api.MaxWinchSamples, func(height int) api.Errno {
		return rules.SizeError(api.MaxWinchSample, height)
	})
}

// PredictorOf is in P2.1.
func PredictorOf(l []int) (api.WinchPredictor, api.Errno) {
	if e := samplesError(l); e != api.OK {
		return api.WinchPredictor{}, e
	}
	q := equations(l)
	den := determinant(q)
	if den == 0 {
		return api.WinchPredictor{}, api.ErrZero
	}
	a := q[0].sum*q[1].of[1] - q[1].sum*q[0].of[1]
	b := q[1].sum*q[0].of[0] - q[0].sum*q[1].of[0]
	by := rules.Divisor(a, b, den)
	return api.WinchPredictor{A: a / by, B: b / by, Den: den / by}, api.OK
}

// CheckPredictor is in P2.1. Parts of a predictor are at most 10^12, so that the sums are below 10^18.
func CheckPredictor(l []int, p api.WinchPredictor) (int, api.Errno) {
	if e := rules.FirstError(samplesError(l), predictorError(p)); e != api.OK {
		return 0, e
	}
	q := equations(l)
	for i, x := range q {
		if x.of[0]*p.A+x.of[1]*p.B != x.sum*p.Den {
			return i, api.ErrProof
		}
	}
	if determinant(q) == 0 {
		return 0, api.ErrZero
	}
	return 0, api.OK
}

// ResidualOf is in P2.1. The sum of what is missed times either height before is 0.
// So the sum of the squares of what is missed is that of what is missed times the heights, and no square overflows.
func ResidualOf(l []int) (api.Frac, api.Errno) {
	p, e := PredictorOf(l)
	if e != api.OK {
		return api.Frac{}, e
	}
	sum := 0
	for height, before := range rows(l) {
		sum += height * (p.Den*height - p.A*before[0] - p.B*before[1])
	}
	return rules.Lowest(sum, p.Den), api.OK
}

// NextBy is in P2.1.
func NextBy(p api.WinchPredictor, l []int) (api.Frac, api.Errno) {
	if e := rules.FirstError(predictorError(p), samplesError(l)); e != api.OK {
		return api.Frac{}, e
	}
	last := len(l) - 1
	return rules.Lowest(p.A*l[last]+p.B*l[last-1], p.Den), api.OK
}

func samplesError(l []int) api.Errno {
	_, e := CheckSamples(l)
	return e
}

func predictorError(p api.WinchPredictor) api.Errno {
	coefficients := [2]int{p.A, p.B}
	e := rules.FirstError(
		rules.LimitError(p.Den, 1, api.MaxWinchPart),
		rules.SizeError(api.MaxWinchPart, coefficients[:]...),
	)
	if e == api.OK && rules.Divisor(p.A, p.B, p.Den) != 1 {
		return api.ErrForm
	}
	return e
}

// rows yields each height that has two heights before it, and these two, the last one first.
func rows(l []int) iter.Seq2[int, [2]int] {
	return func(yield func(height int, before [2]int) bool) {
		for i := range len(l) - 2 {
			if !yield(l[i+2], [2]int{l[i+1], l[i]}) {
				return
			}
		}
	}
}

// equations are those of a predictor: what is missed, times the last height and times the one before, sums up to 0.
func equations(l []int) [2]equation {
	var q [2]equation
	for height, before := range rows(l) {
		for i, x := range before {
			for j, y := range before {
				q[i].of[j] += x * y
			}
			q[i].sum += x * height
		}
	}
	return q
}

// determinant is 0 if equations have more than one solution, and otherwise above 0.
func determinant(q [2]equation) int { return q[0].of[0]*q[1].of[1] - q[0].of[1]*q[1].of[0] }
