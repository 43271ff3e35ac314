package dive_test

import (
	"fmt"
	"math"
	"slices"
	"testing"

	"moonpool/api"
	"moonpool/dive"
)

// P8.1

// badSite is a site that CheckSite refuses, with the index and the error.
type badSite struct {
	name  string
	site  api.DiveSite
	index int
	err   api.Errno
}

// badNames are tasks whose names, and how many there are, are refused.
func badNames() []badSite {
	named := func(i int, name string) api.DiveSite {
		return changed(func(d *api.DiveSite) { d.Tasks[i].Name = name })
	}
	return []badSite{
		{"7 tasks", changed(func(d *api.DiveSite) { d.Tasks = make([]api.DiveTask, 7) }), 0, api.ErrLarge},
		{"7 tasks before places", changed(func(d *api.DiveSite) { d.Tasks, d.Home = make([]api.DiveTask, 7), nil }), 0, api.ErrLarge},
		{"6 tasks without names", changed(func(d *api.DiveSite) { d.Tasks = make([]api.DiveTask, 6) }), 0, api.ErrName},
		{"no name", named(1, ""), 1, api.ErrName},
		{"a long name", named(2, "abcdefghijklm"), 2, api.ErrName},
		{"a digit first", named(0, "1"), 0, api.ErrName},
		{"a sign in a name", named(0, "a;b"), 0, api.ErrName},
		{"a name twice", named(2, "valve"), 2, api.ErrExists},
		{"a name of the task before", named(1, "valve"), 1, api.ErrExists},
		{"names in their order", changed(func(d *api.DiveSite) { d.Tasks[1].Name, d.Tasks[2].Name = "valve", "" }), 1, api.ErrExists},
		{"the name before the place", changed(func(d *api.DiveSite) { d.Tasks[1].Name, d.Tasks[1].Place = "", 5 }), 1, api.ErrName},
		{"twice before the place", changed(func(d *api.DiveSite) { d.Tasks[1].Name, d.Tasks[1].Place = "valve", 5 }), 1, api.ErrExists},
	}
}

// badTasks are tasks whose numbers are refused.
func badTasks() []badSite {
	with := func(i int, n [7]int, after ...int) api.DiveSite {
		return changed(func(d *api.DiveSite) { d.Tasks[i] = taskOf("x", n, after...) })
	}
	all := []badSite{
		{"a window in the wrong order", with(1, [7]int{2, 10, 10, 1, 30, 91, 90}), 1, api.ErrOrder},
		{"a number before the window's order", with(1, [7]int{2, 10, 10, 1, 10001, 91, 90}), 1, api.ErrRange},
		{"the window's end before its order", with(1, [7]int{2, 10, 10, 1, 30, 100001, 90}), 1, api.ErrRange},
		{"the window's order before what it needs", with(2, [7]int{2, 10, 10, 1, 30, 91, 90}, 2), 2, api.ErrOrder},
		{"a task that needs itself", with(1, [7]int{}, 1), 1, api.ErrMissing},
		{"the first one that needs itself", with(0, [7]int{}, 0), 0, api.ErrMissing},
		{"a task that needs a later one", with(1, [7]int{}, 0, 2), 1, api.ErrMissing},
		{"a task that needs -1", with(2, [7]int{}, -1, 0), 2, api.ErrMissing},
		{"a task that needs the least number", with(2, [7]int{}, math.MinInt), 2, api.ErrMissing},
		{"a task that needs the greatest number", with(2, [7]int{}, math.MaxInt), 2, api.ErrMissing},
		{"a task that needs one twice", with(2, [7]int{}, 1, 1), 2, api.ErrOrder},
		{"a task that needs others in the wrong order", with(2, [7]int{}, 1, 0), 2, api.ErrOrder},
		{"missing before order in one number", with(2, [7]int{}, 1, -1), 2, api.ErrMissing},
		{"order before missing in the next number", with(2, [7]int{}, 1, 0, 2), 2, api.ErrOrder},
		{"tasks in their order", changed(func(d *api.DiveSite) { d.Tasks[1].After, d.Tasks[2].Name = []int{1}, "" }), 1, api.ErrMissing},
		{"a task before places", changed(func(d *api.DiveSite) { d.Tasks[2].After, d.Home = []int{2}, nil }), 2, api.ErrMissing},
		{"a task's place that cannot be before that there is none", changed(func(d *api.DiveSite) { d.Tasks[0].Place, d.Tasks[1].Place = 4, 5 }), 1, api.ErrRange},
	}
	for k, most := range []int{4, 10000, 10000, 10000, 10000, 100000, 100000} {
		for _, bad := range []int{-1, most + 1, math.MaxInt, math.MinInt} {
			n := [7]int{2, 10, 10, 1, 30, 80, 90}
			n[k] = bad
			all = append(all, badSite{fmt.Sprint("the number ", k, " ", bad), with(1, n, 0), 1, api.ErrRange})
		}
	}
	return all
}

// badPlaces are sites whose Home, Travel, or places of tasks are refused.
func badPlaces() []badSite {
	home := func(place, n int) api.DiveSite {
		return changed(func(d *api.DiveSite) { d.Home[place] = n })
	}
	row := func(place int, row ...int) api.DiveSite {
		return changed(func(d *api.DiveSite) { d.Travel[place] = row })
	}
	rows := func(homes, rows int) api.DiveSite {
		return changed(func(d *api.DiveSite) { d.Home, d.Travel = make([]int, homes), make([][]int, rows) })
	}
	return []badSite{
		{"nothing", api.DiveSite{}, 0, api.ErrShape},
		{"no places", rows(0, 0), 0, api.ErrShape},
		{"no Home", rows(0, 3), 0, api.ErrShape},
		{"6 places", rows(6, 6), 0, api.ErrLarge},
		{"6 places before rows", rows(6, 3), 0, api.ErrLarge},
		{"no rows", rows(3, 0), 0, api.ErrShape},
		{"too few rows", rows(3, 2), 0, api.ErrShape},
		{"too many rows", rows(3, 4), 0, api.ErrShape},
		{"rows before Home", changed(func(d *api.DiveSite) { d.Home[0], d.Travel = -1, nil }), 0, api.ErrShape},
		{"Home -1", home(2, -1), 2, api.ErrRange},
		{"Home too great", home(1, 10001), 1, api.ErrRange},
		{"Home greatest", home(0, math.MaxInt), 0, api.ErrRange},
		{"Home least", home(0, math.MinInt), 0, api.ErrRange},
		{"a nil row", row(1), 1, api.ErrShape},
		{"a short row", row(2, 20, 10), 2, api.ErrShape},
		{"a long row", row(0, 0, 10, 20, 30), 0, api.ErrShape},
		{"Travel -1", row(1, -1, 0, 10), 1, api.ErrRange},
		{"Travel too great", row(1, 10, 0, 10001), 1, api.ErrRange},
		{"Travel least", row(2, 20, math.MinInt, 0), 2, api.ErrRange},
		{"Travel to the place itself", row(1, 10, 1, 10), 1, api.ErrRange},
		{"Travel to the last place itself", row(2, 20, 10, 10000), 2, api.ErrRange},
		{"Home before the row's shape", changed(func(d *api.DiveSite) { d.Home[1], d.Travel[1] = -1, nil }), 1, api.ErrRange},
		{"the row's shape before its numbers", row(1, -1, 0), 1, api.ErrShape},
		{"a row before the next Home", changed(func(d *api.DiveSite) { d.Home[1], d.Travel[0] = -1, nil }), 0, api.ErrShape},
		{"places before the places of tasks", changed(func(d *api.DiveSite) { d.Tasks[0].Place, d.Travel[2][2] = 3, 1 }), 2, api.ErrRange},
		{"a task at no place", changed(func(d *api.DiveSite) { d.Tasks[1].Place = 3 }), 1, api.ErrMissing},
		{"tasks at no place", changed(func(d *api.DiveSite) { d.Tasks[1].Place, d.Tasks[2].Place = 4, 3 }), 1, api.ErrMissing},
		{"the places of tasks before tides", changed(func(d *api.DiveSite) { d.Tasks[2].Place, d.Tides = 3, make([]api.DiveTide, 7) }), 2, api.ErrMissing},
	}
}

// badTides are sites whose tides, or the numbers after them, are refused.
func badTides() []badSite {
	with := func(tides ...api.DiveTide) api.DiveSite {
		return changed(func(d *api.DiveSite) { d.Tides = tides })
	}
	numbers := func(idle, swim, reserve, end int) api.DiveSite {
		return changed(func(d *api.DiveSite) { d.Idle, d.Swim, d.Reserve, d.End = idle, swim, reserve, end })
	}
	all := []badSite{
		{"7 tides", with(make([]api.DiveTide, 7)...), 0, api.ErrLarge},
		{"7 tides before Idle", changed(func(d *api.DiveSite) { d.Tides, d.Idle = make([]api.DiveTide, 7), -1 }), 0, api.ErrLarge},
		{"a tide from -1", with(tideOf(-1, 5, 5)), 0, api.ErrRange},
		{"a tide up to too late", with(tideOf(0, 4, 5), tideOf(5, 100001, 5)), 1, api.ErrRange},
		{"a tide from too late", with(tideOf(100001, 100001, 5)), 0, api.ErrRange},
		{"a tide of any numbers", with(tideOf(math.MinInt, math.MaxInt, 0)), 0, api.ErrRange},
		{"a tide up to the greatest number", with(tideOf(0, math.MaxInt, 0), tideOf(0, 0, 0)), 0, api.ErrRange},
		{"Slow -1", with(tideOf(0, 4, 5), tideOf(5, 6, -1)), 1, api.ErrRange},
		{"Slow too great", with(tideOf(0, 4, 10001)), 0, api.ErrRange},
		{"a tide in the wrong order", with(tideOf(5, 4, 5)), 0, api.ErrOrder},
		{"Slow before the order", with(tideOf(5, 4, -1)), 0, api.ErrRange},
		{"two tides at a tick", with(tideOf(3, 4, 5), tideOf(4, 9, 5)), 1, api.ErrOrder},
		{"a tide before the first one", with(tideOf(8, 9, 5), tideOf(3, 4, 5)), 1, api.ErrOrder},
		{"a tide that begins with the first one", with(tideOf(0, 0, 5), tideOf(0, 9, 5)), 1, api.ErrOrder},
		{"a tide before the second one", with(tideOf(1, 2, 5), tideOf(8, 9, 5), tideOf(4, 5, 5)), 2, api.ErrOrder},
		{"Slow before the order of two tides", with(tideOf(8, 9, 5), tideOf(3, 4, 10001)), 1, api.ErrRange},
		{"tides in their order", with(tideOf(8, 7, 5), tideOf(3, 4, 10001)), 0, api.ErrOrder},
		{"a tide before Idle", changed(func(d *api.DiveSite) { d.Tides[0].Slow, d.Idle = -1, -1 }), 0, api.ErrRange},
	}
	for _, bad := range []int{-1, 10001, math.MaxInt, math.MinInt} {
		all = append(all,
			badSite{fmt.Sprint("Idle ", bad), numbers(bad, 2, 20, 400), 0, api.ErrRange},
			badSite{fmt.Sprint("Swim ", bad), numbers(1, bad, 20, 400), 0, api.ErrRange},
			badSite{fmt.Sprint("Reserve ", bad), numbers(1, 2, bad, 400), 0, api.ErrRange},
		)
	}
	for _, bad := range []int{-1, 100001, math.MaxInt, math.MinInt} {
		all = append(all, badSite{fmt.Sprint("End ", bad), numbers(1, 2, 20, bad), 0, api.ErrRange})
	}
	return all
}

func badSites() []badSite { return slices.Concat(badNames(), badTasks(), badPlaces(), badTides()) }

// greatSite has as many tasks, places and tides, and as great numbers, as there may be.
func greatSite() api.DiveSite {
	const most, last = 10000, 100000
	d := api.DiveSite{Idle: most, Swim: most, Reserve: most, End: last}
	for i := range 6 {
		d.Tasks = append(d.Tasks, taskOf(fmt.Sprint("A123456789-", i), [7]int{4, most, most, most, most, last, last}, upTo(0, i-1)...))
		d.Tides = append(d.Tides, tideOf(last-5+i, last-5+i, most))
	}
	for place := range 5 {
		row := []int{most, most, most, most, most}
		row[place] = 0
		d.Travel = append(d.Travel, row)
		d.Home = append(d.Home, most)
	}
	return d
}

func TestCheckSite(t *testing.T) {
	for _, d := range []api.DiveSite{
		exampleSite(),
		greatSite(),
		{Home: []int{0}, Travel: [][]int{{0}}},
		{Home: []int{0, 0}, Travel: [][]int{{0, 0}, {0, 0}}, Tasks: []api.DiveTask{taskOf("a", [7]int{1}), taskOf("A", [7]int{}, 0)}},
		changed(func(d *api.DiveSite) { d.Tasks = nil }),
		changed(func(d *api.DiveSite) { d.Tides = []api.DiveTide{tideOf(0, 0, 0), tideOf(1, 1, 10000), tideOf(2, 9, 0)} }),
		changed(func(d *api.DiveSite) { d.Tasks[2].After = []int{0, 1} }),
	} {
		i, e := dive.CheckSite(d)
		want(t, fmt.Sprint("CheckSite of ", d), i, e, 0, api.OK)
	}
	for _, c := range badSites() {
		i, e := dive.CheckSite(c.site)
		want(t, "CheckSite: "+c.name, i, e, c.index, c.err)
	}
}

// TestBadSites calls all functions of sites.
func TestBadSites(t *testing.T) {
	for _, c := range badSites() {
		a := exampleArguments()
		a.site = c.site
		for _, x := range resultsOf(a) {
			if x.takes("site") && x.name != "CheckSite" {
				x.wantError(t, c.name, c.err)
			}
		}
	}
}
