package thrust_test

import (
	"math"
	"slices"
	"testing"

	"moonpool/api"
	"moonpool/thrust"
)

// P3.1

func TestCheckThrusters(t *testing.T) {
	limit := func(low, high int) api.Range { return api.Range{Lo: low, Hi: high} }
	for _, c := range []struct {
		name      string
		thrusters []api.Thruster
	}{
		{"example", exampleThrusters()},
		{"one alone", exampleThrusters()[:1]},
		{"the greatest numbers", greatThrusters()},
		{"limits of 0 to 0", []api.Thruster{{Direction: [2]int{0, -1}}}},
		{"limits from 0", []api.Thruster{{Direction: [2]int{1, 0}, Limit: limit(0, 100)}}},
		{"limits to 0", []api.Thruster{{Direction: [2]int{-1, 0}, Limit: limit(-100, 0)}}},
		{"the least numbers", []api.Thruster{{Direction: [2]int{-3, -3}, Place: [2]int{-5, -5}, Limit: limit(-100, 0)}}},
		{"Dead beyond limits", []api.Thruster{{Direction: [2]int{1, 0}, Dead: 100}}},
		{"five of a kind", slices.Repeat(exampleThrusters()[:1], 5)},
	} {
		i, e := thrust.CheckThrusters(c.thrusters)
		want(t, c.name, i, e, 0, api.OK)
	}
	for _, bad := range allBadThrusters() {
		i, e := thrust.CheckThrusters(bad.thrusters)
		want(t, bad.name, i, e, bad.index, bad.err)
	}
}

func TestColumnOf(t *testing.T) {
	l := exampleThrusters()
	for i, column := range [][3]int{{1, 0, -2}, {1, 0, 2}, {0, 1, 0}} {
		c, e := thrust.ColumnOf(l, i)
		want(t, "example", c, e, column, api.OK)
	}
	for i, column := range [][3]int{{3, -3, -30}, {3, 3, 30}, {-3, 3, 30}, {-3, -3, 30}, {3, 0, 15}} {
		c, e := thrust.ColumnOf(greatThrusters(), i)
		want(t, "the greatest numbers", c, e, column, api.OK)
	}
	c, e := thrust.ColumnOf([]api.Thruster{{Direction: [2]int{2, 3}, Place: [2]int{4, 5}}}, 0)
	want(t, "a column", c, e, [3]int{2, 3, 2}, api.OK)
	for _, i := range []int{-1, 3, math.MinInt, math.MaxInt} {
		c, e := thrust.ColumnOf(l, i)
		want(t, "no such thruster", c, e, [3]int{}, api.ErrMissing)
	}
	for _, bad := range allBadThrusters() {
		for _, i := range []int{0, -1, 9} {
			c, e := thrust.ColumnOf(bad.thrusters, i)
			want(t, bad.name, c, e, [3]int{}, bad.err)
		}
	}
}

// badWhole is a whole setting that no three thrusters have, with the index and the error.
type badWhole struct {
	name    string
	setting []int
	index   int
	err     api.Errno
}

func badWholes() []badWhole {
	return []badWhole{
		{"no numbers", nil, 0, api.ErrShape},
		{"two numbers", []int{3, 5}, 0, api.ErrShape},
		{"four numbers", []int{3, 5, -4, 0}, 0, api.ErrShape},
		{"shape before items", []int{3, 101}, 0, api.ErrShape},
		{"the first too great", []int{101, 0, 0}, 0, api.ErrRange},
		{"one too small", []int{0, -101, 0}, 1, api.ErrRange},
		{"the last too great", []int{0, 0, 101}, 2, api.ErrRange},
		{"the least int", []int{0, math.MinInt, 0}, 1, api.ErrRange},
		{"the greatest int", []int{0, 0, math.MaxInt}, 2, api.ErrRange},
		{"two of them", []int{0, 101, -101}, 1, api.ErrRange},
	}
}

func TestForceOf(t *testing.T) {
	for _, c := range []struct {
		name      string
		thrusters []api.Thruster
		setting   []int
		force     [3]int
	}{
		{"example", exampleThrusters(), []int{3, 5, -4}, [3]int{8, -4, 4}},
		{"nothing", exampleThrusters(), []int{0, 0, 0}, [3]int{}},
		{"beyond limits, and below Dead", exampleThrusters(), []int{100, -100, 1}, [3]int{0, 1, -400}},
		{"the greatest numbers", greatThrusters(), []int{100, 100, -100, -100, 100}, [3]int{1500, 0, -4500}},
		{"one in a line", lineThrusters(), []int{1, 2, 3}, [3]int{2, 0, 0}},
	} {
		f, e := thrust.ForceOf(c.thrusters, c.setting)
		want(t, c.name, f, e, c.force, api.OK)
	}
	for _, bad := range badWholes() {
		f, e := thrust.ForceOf(exampleThrusters(), bad.setting)
		want(t, bad.name, f, e, [3]int{}, bad.err)
	}
	for _, bad := range allBadThrusters() {
		for _, setting := range [][]int{{3, 5, -4}, nil, {101, 0, 0}} {
			f, e := thrust.ForceOf(bad.thrusters, setting)
			want(t, bad.name, f, e, [3]int{}, bad.err)
		}
	}
}

func TestCheckSetting(t *testing.T) {
	uneven := exampleThrusters()
	uneven[0].Limit = api.Range{Lo: -100, Hi: 0}
	uneven[1].Limit = api.Range{Lo: 0, Hi: 100}
	uneven[2].Limit, uneven[2].Dead = api.Range{}, 0
	for _, c := range []struct {
		name      string
		thrusters []api.Thruster
		setting   []int
		index     int
		err       api.Errno
	}{
		{"example", exampleThrusters(), []int{3, 5, -4}, 0, api.OK},
		{"below Dead", exampleThrusters(), []int{3, 1, 0}, 1, api.ErrClash},
		{"beyond limits", exampleThrusters(), []int{3, 5, 11}, 2, api.ErrBreak},
		{"at rest", exampleThrusters(), []int{0, 0, 0}, 0, api.OK},
		{"at limits", exampleThrusters(), []int{-10, 10, -10}, 0, api.OK},
		{"of the size Dead", exampleThrusters(), []int{2, -2, 0}, 0, api.OK},
		{"below Dead, backwards", exampleThrusters(), []int{0, 0, -1}, 2, api.ErrClash},
		{"the first below Dead", exampleThrusters(), []int{1, -1, 1}, 0, api.ErrClash},
		{"the first beyond limits", exampleThrusters(), []int{0, -11, 11}, 1, api.ErrBreak},
		{"all limits before Dead", exampleThrusters(), []int{1, 0, 11}, 2, api.ErrBreak},
		{"all ranges before limits", exampleThrusters(), []int{11, 0, 101}, 2, api.ErrRange},
		{"ends of limits", uneven, []int{-100, 100, 0}, 0, api.OK},
		{"above 0", uneven, []int{1, 0, 0}, 0, api.ErrBreak},
		{"below 0", uneven, []int{0, -1, 0}, 1, api.ErrBreak},
		{"limits of 0 to 0", uneven, []int{0, 0, 1}, 2, api.ErrBreak},
		{"Dead at its greatest", greatThrusters(), []int{100, -100, 0, 100, -100}, 0, api.OK},
		{"just below Dead at its greatest", greatThrusters(), []int{100, -100, 0, -99, 99}, 3, api.ErrClash},
	} {
		i, e := thrust.CheckSetting(c.thrusters, c.setting)
		want(t, c.name, i, e, c.index, c.err)
	}
	for _, bad := range badWholes() {
		i, e := thrust.CheckSetting(exampleThrusters(), bad.setting)
		want(t, bad.name, i, e, bad.index, bad.err)
	}
	for _, bad := range allBadThrusters() {
		for _, setting := range [][]int{{3, 5, -4}, nil, {0, 101, 0}} {
			i, e := thrust.CheckSetting(bad.thrusters, setting)
			want(t, bad.name, i, e, 0, bad.err)
		}
	}
}

func TestDead0And1PermitAll(t *testing.T) {
	for _, dead := range []int{0, 1} {
		l := exampleThrusters()[:1]
		l[0].Dead = dead
		for n := -10; n <= 10; n++ {
			i, e := thrust.CheckSetting(l, []int{n})
			want(t, "CheckSetting", i, e, 0, api.OK)
		}
	}
}

func TestForcesByTheirDefinition(t *testing.T) {
	r := newRandom()
	for range 1000 {
		l := randomThrusters(r, between(r, 1, 5))
		i, e := thrust.CheckThrusters(l)
		want(t, "CheckThrusters", i, e, 0, api.OK)
		i = r.IntN(len(l))
		c, e := thrust.ColumnOf(l, i)
		want(t, "ColumnOf", c, e, columnOf(l, i), api.OK)
		setting := make([]int, len(l))
		for i := range setting {
			setting[i] = between(r, -100, 100)
		}
		f, e := thrust.ForceOf(l, setting)
		want(t, "ForceOf", f, e, forceOf(l, setting), api.OK)
	}
}
