package thrust_test

import (
	"math"
	"slices"
	"testing"

	"moonpool/api"
	"moonpool/thrust"
)

// P3.5, P3.11

func exampleWants() [][3]int { return [][3]int{{5, 0, 0}, {0, 5, 0}} }

// doubled are the example's thrusters, and a second one for Y.
func doubled() []api.Thruster {
	return append(exampleThrusters(), api.Thruster{Direction: [2]int{0, 1}, Limit: api.Range{Lo: -10, Hi: 10}})
}

func TestWeakTo(t *testing.T) {
	still := exampleThrusters()
	still[1].Limit = api.Range{}
	five := slices.Repeat(exampleThrusters()[2:], 5)
	y := func(n int) [][3]int { return [][3]int{{0, n, 0}} }
	for _, c := range []struct {
		name      string
		thrusters []api.Thruster
		wanted    [][3]int
		failures  int
		weakness  []int
		err       api.Errno
	}{
		{"example", exampleThrusters(), exampleWants(), 1, []int{0}, api.OK},
		{"no failures", exampleThrusters(), exampleWants(), 0, nil, api.ErrNone},
		{"no failures, not reachable at all", exampleThrusters(), [][3]int{{40, 0, 0}}, 0, []int{}, api.OK},
		{"not reachable at all", exampleThrusters(), [][3]int{{40, 0, 0}}, 2, []int{}, api.OK},
		{"the last one is not reachable at all", exampleThrusters(), [][3]int{{5, 0, 0}, {0, 5, 0}, {0, 0, 41}}, 2, []int{}, api.OK},
		{"nothing is always reachable", exampleThrusters(), [][3]int{{}}, 2, nil, api.ErrNone},
		{"the smallest set, not the first", exampleThrusters(), y(5), 2, []int{2}, api.OK},
		{"a force of a thruster alone", exampleThrusters(), y(10), 1, []int{2}, api.OK},
		{"two for one", doubled(), y(5), 1, nil, api.ErrNone},
		{"two for one, two failures", doubled(), y(5), 2, []int{2, 3}, api.OK},
		{"two for two", doubled(), y(15), 2, []int{2}, api.OK},
		{"a wanted force that needs others", doubled(), [][3]int{{0, 5, 0}, {5, 0, 0}}, 2, []int{0}, api.OK},
		{"limits of 0 to 0", still, exampleWants(), 2, []int{}, api.OK},
		{"limits of 0 to 0, not needed", still, y(5), 2, []int{2}, api.OK},
		{"five of a kind, one failure", five, y(40), 1, nil, api.ErrNone},
		{"five of a kind, two failures", five, y(40), 2, []int{0, 1}, api.OK},
		{"five of a kind, two failures, less wanted", five, y(30), 2, nil, api.ErrNone},
		{"more failures than thrusters", exampleThrusters()[2:], y(5), 2, []int{0}, api.OK},
		{"more failures than thrusters, nothing wanted", exampleThrusters()[2:], y(0), 2, nil, api.ErrNone},
		{"a low rank", lineThrusters(), [][3]int{{30, 0, 0}}, 1, []int{1}, api.OK},
		{"by fractions alone", exampleThrusters()[:2], [][3]int{{5, 0, 0}}, 2, []int{0}, api.OK},
	} {
		l, e := thrust.WeakTo(c.thrusters, c.wanted, c.failures)
		want(t, c.name, l, e, c.weakness, c.err)
	}
}

func TestEnoughFor(t *testing.T) {
	still := exampleThrusters()
	still[1].Limit = api.Range{}
	five := slices.Repeat(exampleThrusters()[2:], 5)
	for _, c := range []struct {
		name      string
		thrusters []api.Thruster
		wanted    [][3]int
		enough    []int
		err       api.Errno
	}{
		{"example", exampleThrusters(), exampleWants(), []int{0, 1, 2}, api.OK},
		{"one force", exampleThrusters(), exampleWants()[1:], []int{2}, api.OK},
		{"the other one", exampleThrusters(), exampleWants()[:1], []int{0, 1}, api.OK},
		{"nothing", exampleThrusters(), [][3]int{{}}, []int{}, api.OK},
		{"nothing six times", exampleThrusters(), make([][3]int, 6), []int{}, api.OK},
		{"too much", exampleThrusters(), [][3]int{{40, 0, 0}}, nil, api.ErrNone},
		{"too much at last", exampleThrusters(), [][3]int{{5, 0, 0}, {}, {0, 11, 0}}, nil, api.ErrNone},
		{"the first one of two", doubled(), [][3]int{{0, 10, 0}}, []int{2}, api.OK},
		{"both", doubled(), [][3]int{{0, 11, 0}}, []int{2, 3}, api.OK},
		{"limits of 0 to 0", still, exampleWants(), nil, api.ErrNone},
		{"limits of 0 to 0, not needed", still, [][3]int{{0, 5, 0}}, []int{2}, api.OK},
		{"three of five", five, [][3]int{{0, -30, 0}, {0, 30, 0}}, []int{0, 1, 2}, api.OK},
		{"four of five", five, [][3]int{{0, -30, 0}, {0, 31, 0}}, []int{0, 1, 2, 3}, api.OK},
		{"all five", five, [][3]int{{0, 50, 0}}, []int{0, 1, 2, 3, 4}, api.OK},
		{"not even five", five, [][3]int{{0, 51, 0}}, nil, api.ErrNone},
		{"a low rank", lineThrusters(), [][3]int{{20, 0, 0}}, []int{1}, api.OK},
		{"across a low rank", lineThrusters(), [][3]int{{20, 1, 0}}, nil, api.ErrNone},
		{"together, not one by one", lineThrusters(), [][3]int{{21, 0, 0}, {-30, 0, 0}}, []int{0, 1}, api.OK},
	} {
		l, e := thrust.EnoughFor(c.thrusters, c.wanted)
		want(t, c.name, l, e, c.enough, c.err)
	}
}

func TestErrorsOfFailures(t *testing.T) {
	check := func(name string, l []api.Thruster, wanted [][3]int, err api.Errno) {
		for _, failures := range []int{0, 2, 3, -1} {
			x, e := thrust.WeakTo(l, wanted, failures)
			want(t, "WeakTo: "+name, x, e, []int(nil), err)
		}
		x, e := thrust.EnoughFor(l, wanted)
		want(t, "EnoughFor: "+name, x, e, []int(nil), err)
	}
	for _, bad := range allBadThrusters() {
		check(bad.name, bad.thrusters, exampleWants(), bad.err)
		check(bad.name+", no wanted forces", bad.thrusters, nil, bad.err)
	}
	l := exampleThrusters()
	check("no wanted forces", l, nil, api.ErrShape)
	check("seven", l, make([][3]int, 7), api.ErrLarge)
	check("seven before items", l, append(make([][3]int, 6), [3]int{1001, 0, 0}), api.ErrLarge)
	for _, bad := range badNumbers(1000) {
		check("the first one bad", l, [][3]int{bad, {}}, api.ErrRange)
		check("the last one bad", l, [][3]int{{40, 0, 0}, {}, bad}, api.ErrRange)
	}
	for _, failures := range []int{-1, 3, math.MinInt, math.MaxInt} {
		x, e := thrust.WeakTo(l, [][3]int{{40, 0, 0}}, failures)
		want(t, "so many failures", x, e, []int(nil), api.ErrRange)
	}
}

// failing is thrusters of which those in a set of bits have failed.
func failing(l []api.Thruster, failed int) []api.Thruster {
	l = slices.Clone(l)
	for i := range l {
		if failed>>i&1 == 1 {
			l[i].Limit = api.Range{}
		}
	}
	return l
}

// listed are the indexes of a set of bits.
func listed(set int) []int {
	l := []int{}
	for i := range 5 {
		if set>>i&1 == 1 {
			l = append(l, i)
		}
	}
	return l
}

// firstOf is the smallest such set of bits, of several the lexicographically first one.
func firstOf(count int, such func(set int) bool) (first []int, is bool) {
	for set := range 1 << count {
		l := listed(set)
		if such(set) && (!is || len(l) < len(first) || len(l) == len(first) && slices.Compare(l, first) < 0) {
			first, is = l, true
		}
	}
	return first, is
}

func allReachable(l []api.Thruster, wanted [][3]int) bool {
	for _, w := range wanted {
		if !reachable(l, w) {
			return false
		}
	}
	return true
}

func TestFailuresByTheirDefinition(t *testing.T) {
	r := newRandom()
	weak, enough := map[int]int{}, map[int]int{}
	for range 150 {
		l := randomThrusters(r, between(r, 1, 5))
		wanted := make([][3]int, between(r, 1, 3))
		for i := range wanted {
			wanted[i] = forceOf(l, settingIn(r, l))
			for k, n := range wanted[i] {
				wanted[i][k] = max(-1000, min(n/between(r, 1, 2), 1000))
			}
		}
		failures := r.IntN(3)
		x, e := thrust.WeakTo(l, wanted, failures)
		first, is := firstOf(len(l), func(set int) bool {
			return len(listed(set)) <= failures && !allReachable(failing(l, set), wanted)
		})
		want(t, "WeakTo", x, e, append([]int{}, first...), errorIf(!is))
		if is {
			weak[len(first)]++
		}
		x, e = thrust.EnoughFor(l, wanted)
		first, is = firstOf(len(l), func(set int) bool {
			return allReachable(failing(l, 1<<len(l)-1-set), wanted)
		})
		want(t, "EnoughFor", x, e, append([]int{}, first...), errorIf(!is))
		if is {
			enough[len(first)]++
		}
	}
	if len(weak) < 3 || len(enough) < 5 {
		t.Errorf("weaknesses of the sizes %v, and enough of the sizes %v: too few kinds are tested", weak, enough)
	}
}

func errorIf(none bool) api.Errno {
	if none {
		return api.ErrNone
	}
	return api.OK
}
