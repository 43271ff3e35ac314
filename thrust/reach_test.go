package thrust_test

import (
	"math"
	"slices"
	"testing"

	"moonpool/api"
	"moonpool/thrust"
)

// P3.4, P3.10

func TestSupportOf(t *testing.T) {
	uneven := exampleThrusters()
	uneven[0].Limit, uneven[1].Limit, uneven[2].Limit = api.Range{Lo: 0, Hi: 7}, api.Range{Lo: -3, Hi: 0}, api.Range{}
	for _, c := range []struct {
		name      string
		thrusters []api.Thruster
		direction [3]int
		support   int
	}{
		{"example", exampleThrusters(), [3]int{1, 0, 0}, 20},
		{"a moment", exampleThrusters(), [3]int{0, 0, 1}, 40},
		{"a cut", exampleThrusters(), [3]int{2, 0, -1}, 40},
		{"all", exampleThrusters(), [3]int{-1, -1, 1}, 50},
		{"the greatest direction", exampleThrusters(), [3]int{10000, -10000, 10000}, 500000},
		{"the greatest of all", greatThrusters(), [3]int{10000, -10000, -10000}, 36000000 + 30000000 + 36000000 + 30000000 + 12000000},
		{"ahead alone", uneven, [3]int{1, 1, 0}, 7},
		{"back alone", uneven, [3]int{-1, 1, 0}, 3},
		{"nothing", uneven, [3]int{0, 1, 0}, 0},
		{"a low rank", lineThrusters(), [3]int{1, 5, 7}, 40},
		{"across a low rank", lineThrusters(), [3]int{0, 5, 7}, 0},
	} {
		n, e := thrust.SupportOf(c.thrusters, c.direction)
		want(t, c.name, n, e, c.support, api.OK)
	}
	for _, bad := range allBadThrusters() {
		for _, direction := range [][3]int{{1, 0, 0}, {}, {10001, 0, 0}} {
			n, e := thrust.SupportOf(bad.thrusters, direction)
			want(t, bad.name, n, e, 0, bad.err)
		}
	}
	for _, direction := range badNumbers(10000) {
		n, e := thrust.SupportOf(exampleThrusters(), direction)
		want(t, "a bad direction", n, e, 0, api.ErrRange)
	}
	n, e := thrust.SupportOf(exampleThrusters(), [3]int{})
	want(t, "no direction", n, e, 0, api.ErrZero)
}

func TestReach(t *testing.T) {
	still := exampleThrusters()
	for i := range still {
		still[i].Limit = api.Range{}
	}
	one := exampleThrusters()
	one[0].Limit, one[1].Limit = api.Range{}, api.Range{}
	parallel := append(exampleThrusters(), exampleThrusters()[0])
	for _, c := range []struct {
		name      string
		thrusters []api.Thruster
		wanted    [3]int
		cut       [3]int
	}{
		{"example", exampleThrusters(), [3]int{8, -4, 4}, [3]int{}},
		{"example 5", exampleThrusters(), [3]int{40, 0, 0}, [3]int{2, 0, -1}},
		{"nothing", exampleThrusters(), [3]int{}, [3]int{}},
		{"a corner", exampleThrusters(), [3]int{20, 10, 0}, [3]int{}},
		{"one more than a corner", exampleThrusters(), [3]int{20, 11, 0}, [3]int{0, 1, 0}},
		{"one less than a corner", exampleThrusters(), [3]int{20, -11, 0}, [3]int{0, -1, 0}},
		{"by halves", exampleThrusters(), [3]int{1, 0, 0}, [3]int{}},
		{"a moment too great", exampleThrusters(), [3]int{0, 0, 41}, [3]int{-2, 0, 1}},
		{"a moment beside a force", exampleThrusters(), [3]int{20, 0, 8}, [3]int{2, 0, 1}},
		{"everything too great", exampleThrusters(), [3]int{1000, 1000, 1000}, [3]int{0, 1, 0}},
		{"nothing by thrusters of limits 0", still, [3]int{}, [3]int{}},
		{"something by thrusters of limits 0", still, [3]int{0, 0, 1}, [3]int{-2, 0, 1}},
		{"along the one that works", one, [3]int{0, -10, 0}, [3]int{}},
		{"too far along it", one, [3]int{0, -11, 0}, [3]int{0, -1, 0}},
		{"beside it", one, [3]int{0, 3, 1}, [3]int{-2, 0, 1}},
		{"parallel columns", parallel, [3]int{31, 0, -20}, [3]int{2, 0, -1}},
		{"parallel columns, reached", parallel, [3]int{30, 0, -20}, [3]int{}},
	} {
		is, e := thrust.IsReachable(c.thrusters, c.wanted)
		want(t, "IsReachable: "+c.name, is, e, c.cut == [3]int{}, api.OK)
		d, e := thrust.CutOf(c.thrusters, c.wanted)
		if c.cut == [3]int{} {
			want(t, "CutOf: "+c.name, d, e, [3]int{}, api.ErrNone)
			continue
		}
		want(t, "CutOf: "+c.name, d, e, c.cut, api.OK)
	}
}

func TestErrorsOfReach(t *testing.T) {
	check := func(name string, l []api.Thruster, wanted [3]int, err api.Errno) {
		is, e := thrust.IsReachable(l, wanted)
		want(t, "IsReachable: "+name, is, e, false, err)
		d, e := thrust.CutOf(l, wanted)
		want(t, "CutOf: "+name, d, e, [3]int{}, err)
	}
	for _, bad := range allBadThrusters() {
		check(bad.name, bad.thrusters, [3]int{8, -4, 4}, bad.err)
		check(bad.name+", a bad wanted force", bad.thrusters, [3]int{1001, 0, 0}, bad.err)
	}
	for _, wanted := range badNumbers(1000) {
		check("a bad wanted force", exampleThrusters(), wanted, api.ErrRange)
		check("a bad wanted force of a low rank", lineThrusters(), wanted, api.ErrRange)
	}
	for _, l := range lowRanks() {
		check("a low rank", l, [3]int{40, 40, 40}, api.ErrOpen)
		check("a low rank, nothing wanted", l, [3]int{}, api.ErrOpen)
	}
}

func TestCheckCut(t *testing.T) {
	l := exampleThrusters()
	for _, c := range []struct {
		name              string
		thrusters         []api.Thruster
		wanted, direction [3]int
		excess            int
		err               api.Errno
	}{
		{"example", l, [3]int{40, 0, 0}, [3]int{2, 0, -1}, 40, api.OK},
		{"the other one", l, [3]int{40, 0, 0}, [3]int{2, 0, 1}, 40, api.OK},
		{"any direction", l, [3]int{40, 0, 0}, [3]int{3, 0, 0}, 60, api.OK},
		{"a multiple", l, [3]int{40, 0, 0}, [3]int{10000, 0, -5000}, 200000, api.OK},
		{"greater by 1", l, [3]int{21, 0, 0}, [3]int{1, 0, 0}, 1, api.OK},
		{"equal", l, [3]int{20, 0, 0}, [3]int{1, 0, 0}, 0, api.ErrProof},
		{"less", l, [3]int{19, 0, 0}, [3]int{1, 0, 0}, 0, api.ErrProof},
		{"the opposite", l, [3]int{40, 0, 0}, [3]int{-2, 0, 1}, 0, api.ErrProof},
		{"not reachable, but across", l, [3]int{40, 0, 0}, [3]int{0, 1, 0}, 0, api.ErrProof},
		{"reachable", l, [3]int{8, -4, 4}, [3]int{2, 0, -1}, 0, api.ErrProof},
		{"nothing", l, [3]int{}, [3]int{1, 0, 0}, 0, api.ErrProof},
		{"the greatest numbers", l, [3]int{1000, -1000, 1000}, [3]int{10000, -10000, 10000}, 29500000, api.OK},
		{"a low rank", lineThrusters(), [3]int{0, 1, 0}, [3]int{0, 7, 0}, 7, api.OK},
		{"a low rank, equal", lineThrusters(), [3]int{40, 0, 0}, [3]int{7, 3, 0}, 0, api.ErrProof},
	} {
		n, e := thrust.CheckCut(c.thrusters, c.wanted, c.direction)
		want(t, c.name, n, e, c.excess, c.err)
	}
	for _, bad := range allBadThrusters() {
		n, e := thrust.CheckCut(bad.thrusters, [3]int{40, 0, 0}, [3]int{2, 0, -1})
		want(t, bad.name, n, e, 0, bad.err)
		n, e = thrust.CheckCut(bad.thrusters, [3]int{1001, 0, 0}, [3]int{})
		want(t, bad.name+", all bad", n, e, 0, bad.err)
	}
	for _, wanted := range badNumbers(1000) {
		for _, direction := range [][3]int{{2, 0, -1}, {}} {
			n, e := thrust.CheckCut(l, wanted, direction)
			want(t, "a bad wanted force", n, e, 0, api.ErrRange)
		}
	}
	for _, direction := range badNumbers(10000) {
		n, e := thrust.CheckCut(l, [3]int{40, 0, 0}, direction)
		want(t, "a bad direction", n, e, 0, api.ErrRange)
	}
	n, e := thrust.CheckCut(l, [3]int{40, 0, 0}, [3]int{})
	want(t, "no direction", n, e, 0, api.ErrZero)
}

// supportOf is the support by its definition: the greatest product is that of a corner.
func supportOf(l []api.Thruster, direction [3]int) int {
	most := math.MinInt
	for _, corner := range corners(l) {
		most = max(most, product(direction, forceOf(l, corner)))
	}
	return most
}

// directionsOf are the directions among which the cut of a force is, ascending.
func directionsOf(l []api.Thruster) [][3]int {
	var all [][3]int
	for i := range l {
		for j := range l {
			n := cross(columnOf(l, i), columnOf(l, j))
			for by := 180; by > 1; by-- {
				for n[0]%by == 0 && n[1]%by == 0 && n[2]%by == 0 && n != [3]int{} {
					n = [3]int{n[0] / by, n[1] / by, n[2] / by}
				}
			}
			if n != [3]int{} {
				all = append(all, n)
			}
		}
	}
	slices.SortFunc(all, func(a, b [3]int) int { return slices.Compare(a[:], b[:]) })
	return all
}

// firstCut is the first direction whose product with a wanted force is greater than the support.
func firstCut(l []api.Thruster, wanted [3]int) (cut [3]int, is bool) {
	for _, d := range directionsOf(l) {
		if product(d, wanted) > supportOf(l, d) {
			return d, true
		}
	}
	return [3]int{}, false
}

// reachable is whether a force is reachable by thrusters of any rank: whether there is no cut once thrusters that give nothing complete the rank.
func reachable(l []api.Thruster, wanted [3]int) bool {
	complete := append(slices.Clone(l),
		api.Thruster{Direction: [2]int{1, 0}},
		api.Thruster{Direction: [2]int{0, 1}},
		api.Thruster{Direction: [2]int{1, 0}, Place: [2]int{0, 1}},
	)
	_, is := firstCut(complete, wanted)
	return !is
}

func TestCutsByTheirDefinition(t *testing.T) {
	r := newRandom()
	cut := 0
	for range 600 {
		l := spanning(r)
		wanted := randomWanted(r, l)
		first, is := firstCut(l, wanted)
		reaches, e := thrust.IsReachable(l, wanted)
		want(t, "IsReachable", reaches, e, !is, api.OK)
		d, e := thrust.CutOf(l, wanted)
		if !is {
			want(t, "CutOf a reachable force", d, e, [3]int{}, api.ErrNone)
			continue
		}
		cut++
		want(t, "CutOf", d, e, first, api.OK)
		n, e := thrust.CheckCut(l, wanted, d)
		want(t, "CheckCut of CutOf", n, e, product(first, wanted)-supportOf(l, first), api.OK)
	}
	if cut < 100 || cut > 500 {
		t.Errorf("%d of 600 are cut: too few of one kind are tested", cut)
	}
}

func TestSupportByItsDefinition(t *testing.T) {
	r := newRandom()
	for range 1000 {
		l := randomThrusters(r, between(r, 1, 5))
		direction := [3]int{between(r, -10000, 10000), between(r, -3, 3), between(r, 1, 100)}
		n, e := thrust.SupportOf(l, direction)
		want(t, "SupportOf", n, e, supportOf(l, direction), api.OK)
		setting := settingIn(r, l)
		force := forceOf(l, setting)
		if product(force, direction) > n {
			t.Errorf("%v: %v gives more than the support %d of %v", l, setting, n, direction)
		}
		if max(force[0], -force[0], force[1], -force[1], force[2], -force[2]) > 1000 {
			continue
		}
		excess, e := thrust.CheckCut(l, force, direction)
		want(t, "CheckCut of what is given", excess, e, 0, api.ErrProof)
		if spans(l) {
			is, e := thrust.IsReachable(l, force)
			want(t, "IsReachable of what is given", is, e, true, api.OK)
		}
	}
}

func TestNoSettingGivesWhatIsCut(t *testing.T) {
	r := newRandom()
	cut := 0
	for range 1000 {
		l := small(r, 2)
		wanted := randomWanted(r, l)
		direction := [3]int{between(r, -3, 3), between(r, -3, 3), between(r, 1, 3)}
		n, e := thrust.CheckCut(l, wanted, direction)
		if e != api.OK {
			continue
		}
		cut++
		for _, setting := range everySetting(l) {
			if product(forceOf(l, setting), direction) > product(wanted, direction)-n {
				t.Fatalf("%v: %v is not %d below %v in the direction %v", l, setting, n, wanted, direction)
			}
		}
	}
	if cut < 50 {
		t.Errorf("%d cuts alone were tested", cut)
	}
}
