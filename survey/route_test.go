package survey_test

import (
	"fmt"
	"math"
	"math/big"
	"slices"
	"testing"

	"moonpool/api"
	"moonpool/survey"
)

// P9.2 (CrossingsOf), P9.10

// crossingOf is a crossing in a point whose coordinates are two numerators divided by one denominator each.
func crossingOf(first, second int, x, y api.Frac) api.SurveyCrossing {
	return api.SurveyCrossing{First: first, Second: second, Point: api.SurveyPoint{X: x, Y: y}}
}

func fracOf(num, den int) api.Frac { return api.Frac{Num: num, Den: den} }

func whole(n int) api.Frac { return fracOf(n, 1) }

func TestCrossingsOf(t *testing.T) {
	a, b := exampleRoutes()
	level := [][2]int{{0, 0}, {4, 0}}
	bent := [][2]int{{0, 0}, {2, 0}, {4, 0}}
	for _, c := range []struct {
		name      string
		a, b      [][2]int
		crossings []api.SurveyCrossing
	}{
		{"example 3", a, b, []api.SurveyCrossing{crossingOf(0, 0, whole(5), whole(0)), crossingOf(1, 1, whole(10), whole(5))}},
		{"halves", [][2]int{{0, 0}, {3, 1}}, [][2]int{{0, 1}, {3, 0}}, []api.SurveyCrossing{crossingOf(0, 0, fracOf(3, 2), fracOf(1, 2))}},
		{"lowest terms below 0", [][2]int{{0, 0}, {-4, -2}}, [][2]int{{-3, 0}, {-3, -4}}, []api.SurveyCrossing{crossingOf(0, 0, whole(-3), fracOf(-3, 2))}},
		{"in the origin", [][2]int{{-1, -1}, {1, 1}}, [][2]int{{-1, 1}, {1, -1}}, []api.SurveyCrossing{crossingOf(0, 0, whole(0), whole(0))}},
		{"apart", level, [][2]int{{1, 1}, {3, 5}}, nil},
		{"beyond the end", level, [][2]int{{5, -1}, {5, 1}}, nil},
		{"parallel", level, [][2]int{{0, 1}, {4, 1}}, nil},
		{"on one line", level, [][2]int{{1, 0}, {6, 0}}, nil},
		{"the same route", level, level, nil},
		{"the same route back", level, [][2]int{{4, 0}, {0, 0}}, nil},
		{"one line, end to end", level, [][2]int{{4, 0}, {8, 0}}, nil},
		{"at both first ends", level, [][2]int{{0, 0}, {0, 3}}, []api.SurveyCrossing{crossingOf(0, 0, whole(0), whole(0))}},
		{"at both last ends", level, [][2]int{{4, 3}, {4, 0}}, []api.SurveyCrossing{crossingOf(0, 0, whole(4), whole(0))}},
		{"a last end on a way", level, [][2]int{{1, 3}, {1, 0}}, []api.SurveyCrossing{crossingOf(0, 0, whole(1), whole(0))}},
		{"at a corner", bent, [][2]int{{2, 3}, {2, 0}}, []api.SurveyCrossing{crossingOf(1, 0, whole(2), whole(0))}},
		{"at a corner, the other route through it", bent, [][2]int{{2, 3}, {2, -3}}, []api.SurveyCrossing{crossingOf(1, 0, whole(2), whole(0))}},
		{"at the corners of both", bent, [][2]int{{2, 3}, {2, 0}, {2, -3}}, []api.SurveyCrossing{crossingOf(1, 1, whole(2), whole(0))}},
		{"at the last corner", bent, [][2]int{{4, -1}, {4, 1}}, []api.SurveyCrossing{crossingOf(1, 0, whole(4), whole(0))}},
		{"at a corner whose next segment is parallel", [][2]int{{0, 0}, {2, 0}, {2, 5}}, [][2]int{{2, 0}, {2, -3}}, nil},
		{"one point of several segments", [][2]int{{0, 0}, {4, 0}, {4, 4}, {0, -4}}, [][2]int{{2, -2}, {2, 2}}, []api.SurveyCrossing{crossingOf(0, 0, whole(2), whole(0)), crossingOf(2, 0, whole(2), whole(0))}},
		{"by First before Second", [][2]int{{0, 0}, {9, 0}, {9, 9}, {0, 9}}, [][2]int{{3, -1}, {3, 10}, {6, 10}, {6, -1}}, []api.SurveyCrossing{
			crossingOf(0, 0, whole(3), whole(0)), crossingOf(0, 2, whole(6), whole(0)),
			crossingOf(2, 0, whole(3), whole(9)), crossingOf(2, 2, whole(6), whole(9)),
		}},
		{"great coordinates", [][2]int{{-200, -200}, {200, 199}}, [][2]int{{-199, 200}, {200, -200}}, []api.SurveyCrossing{crossingOf(0, 0, fracOf(159800, 319201), fracOf(-200, 319201))}},
	} {
		l, e := survey.CrossingsOf(c.a, c.b)
		want(t, "CrossingsOf: "+c.name, l, e, c.crossings, api.OK)
	}
}

// corners are so many, which are valid.
func corners(count int) [][2]int {
	l := make([][2]int, count)
	for i := range l {
		l[i] = [2]int{i % 200, i / 200}
	}
	return l
}

func TestErrorsOfRoutes(t *testing.T) {
	fine := corners(2)
	for _, c := range []struct {
		name  string
		route [][2]int
		err   api.Errno
	}{
		{"as many as possible", corners(8), api.OK},
		{"the greatest coordinates", [][2]int{{-200, 200}, {200, -200}}, api.OK},
		{"a corner again, but not at once", [][2]int{{1, 1}, {2, 2}, {1, 1}}, api.OK},
		{"the corner 0 first", [][2]int{{0, 0}, {0, 1}}, api.OK},
		{"the greatest corner on an axis first", [][2]int{{200, 0}, {0, 1}}, api.OK},
		{"the one beside it first", [][2]int{{199, 0}, {0, 1}}, api.OK},
		{"none", nil, api.ErrShape},
		{"one", corners(1), api.ErrShape},
		{"one bad one", [][2]int{{201, 0}}, api.ErrShape},
		{"too many", corners(9), api.ErrLarge},
		{"too many, the first one bad", append([][2]int{{201, 0}}, corners(8)...), api.ErrLarge},
		{"very many", corners(10000), api.ErrLarge},
		{"X too great", [][2]int{{201, 0}, {0, 0}}, api.ErrRange},
		{"Y too small", [][2]int{{0, 0}, {0, -201}}, api.ErrRange},
		{"the least int", [][2]int{{0, 0}, {math.MinInt, 0}}, api.ErrRange},
		{"the same corner", [][2]int{{0, 0}, {0, 0}}, api.ErrZero},
		{"the same corner later", [][2]int{{0, 0}, {3, 4}, {3, 4}, {5, 5}}, api.ErrZero},
		{"the same before a coordinate of the next one", [][2]int{{0, 0}, {0, 0}, {201, 0}}, api.ErrZero},
		{"a coordinate before the same of the next ones", [][2]int{{0, 0}, {0, 201}, {0, 201}}, api.ErrRange},
	} {
		l, e := survey.CrossingsOf(c.route, [][2]int{{-1, 7}, {-2, 7}})
		want(t, "CrossingsOf: the first route: "+c.name, l, e, "[]", c.err)
		l, e = survey.CrossingsOf([][2]int{{-1, 7}, {-2, 7}}, c.route)
		want(t, "CrossingsOf: the second route: "+c.name, l, e, "[]", c.err)
		if c.err != api.OK {
			l, e = survey.CrossingsOf(c.route, [][2]int{{5, 5}})
			want(t, "CrossingsOf: the first error of both routes: "+c.name, l, e, "[]", c.err)
			l, e = survey.CrossingsOf(fine, c.route)
			want(t, "CrossingsOf: with a valid first route: "+c.name, l, e, "[]", c.err)
		}
	}
}

func rational(f api.Frac) *big.Rat { return ratio(f.Num, f.Den) }

// lies is whether a point lies on the segment i of a route: on its line, between its ends, and not at its second end unless it is the last one.
func lies(p api.SurveyPoint, route [][2]int, i int) bool {
	from, to := route[i], route[i+1]
	x, y := rational(p.X), rational(p.Y)
	fromX, fromY, toX, toY := ratio(from[0], 1), ratio(from[1], 1), ratio(to[0], 1), ratio(to[1], 1)
	minus := func(a, b *big.Rat) *big.Rat { return new(big.Rat).Sub(a, b) }
	times := func(a, b *big.Rat) *big.Rat { return new(big.Rat).Mul(a, b) }
	between := func(a, n, b *big.Rat) bool { return times(minus(n, a), minus(n, b)).Sign() <= 0 }
	onLine := times(minus(x, fromX), minus(toY, fromY)).Cmp(times(minus(y, fromY), minus(toX, fromX))) == 0
	isEnd := x.Cmp(toX) == 0 && y.Cmp(toY) == 0
	return onLine && between(fromX, x, toX) && between(fromY, y, toY) && (!isEnd || i == len(route)-2)
}

// lineThrough is a, b and c of the line a times X plus b times Y is c through a segment.
func lineThrough(route [][2]int, i int) (a, b, c int) {
	from, to := route[i], route[i+1]
	a, b = to[1]-from[1], from[0]-to[0]
	return a, b, a*from[0] + b*from[1]
}

// crossingsByLines solves the equations of both lines for each pair of segments.
func crossingsByLines(first, second [][2]int) []api.SurveyCrossing {
	var all []api.SurveyCrossing
	for i := range len(first) - 1 {
		for j := range len(second) - 1 {
			a, b, c := lineThrough(first, i)
			d, e, f := lineThrough(second, j)
			if a*e == b*d {
				continue
			}
			x, y := ratio(c*e-b*f, a*e-b*d), ratio(a*f-c*d, a*e-b*d)
			p := api.SurveyPoint{
				X: fracOf(int(x.Num().Int64()), int(x.Denom().Int64())),
				Y: fracOf(int(y.Num().Int64()), int(y.Denom().Int64())),
			}
			if lies(p, first, i) && lies(p, second, j) {
				all = append(all, api.SurveyCrossing{First: i, Second: j, Point: p})
			}
		}
	}
	return all
}

func TestCrossingsByLines(t *testing.T) {
	r := newRandom()
	found, atCorners := 0, 0
	for range 4000 {
		a, b := randomRoute(r), randomRoute(r)
		l, e := survey.CrossingsOf(a, b)
		want(t, fmt.Sprint("CrossingsOf ", a, b), l, e, crossingsByLines(a, b), api.OK)
		found += len(l)
		for _, c := range l {
			if !lies(c.Point, a, c.First) || !lies(c.Point, b, c.Second) {
				t.Errorf("CrossingsOf %v %v: %v does not lie on both segments", a, b, c)
			}
			if isCorner(c.Point, a) || isCorner(c.Point, b) {
				atCorners++
			}
		}
	}
	if found < 4000 || atCorners < 1000 || found-atCorners < 1000 {
		t.Errorf("too few crossings are tested: %d, %d of them at corners", found, atCorners)
	}
}

func isCorner(p api.SurveyPoint, route [][2]int) bool {
	return slices.ContainsFunc(route, func(c [2]int) bool { return p.X == whole(c[0]) && p.Y == whole(c[1]) })
}

// points are those of crossings, sorted.
func points(l []api.SurveyCrossing) []string {
	var all []string
	for _, c := range l {
		all = append(all, fmt.Sprint(c.Point))
	}
	slices.Sort(all)
	return all
}

// TestCrossingsOfOtherOrders takes the routes in the other order, and one that goes back.
func TestCrossingsOfOtherOrders(t *testing.T) {
	r := newRandom()
	atNone := 0
	for range 4000 {
		a, b := randomRoute(r), randomRoute(r)
		l, _ := survey.CrossingsOf(a, b)
		swapped, e := survey.CrossingsOf(b, a)
		want(t, fmt.Sprint("the points of CrossingsOf ", b, a), points(swapped), e, points(l), api.OK)
		back := slices.Clone(a)
		slices.Reverse(back)
		returned, e := survey.CrossingsOf(back, b)
		inside := func(c api.SurveyCrossing) bool { return isCorner(c.Point, a) }
		some := slices.DeleteFunc(slices.Clone(l), inside)
		want(t, fmt.Sprint("the points of CrossingsOf ", back, b, " but for corners"), points(slices.DeleteFunc(returned, inside)), e, points(some), api.OK)
		atNone += len(some)
	}
	if atNone < 1000 {
		t.Errorf("too few crossings are tested that are at no corner: %d", atNone)
	}
}
