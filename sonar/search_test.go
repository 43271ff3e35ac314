package sonar_test

import (
	"math"
	"math/rand/v2"
	"slices"
	"testing"

	"moonpool/api"
	"moonpool/sonar"
)

// P4.5, P4.13

// badSearch is a search that CheckSearch refuses, with the index and the error.
type badSearch struct {
	name   string
	search api.SonarSearch
	index  int
	err    api.Errno
}

func allBadSearches() []badSearch {
	with := func(change func(x *api.SonarSearch)) api.SonarSearch {
		x := exampleSearch()
		change(&x)
		return x
	}
	wanting := func(cells ...int) api.SonarSearch { return with(func(x *api.SonarSearch) { x.Wanted = cells }) }
	costing := func(i, cost int) api.SonarSearch { return with(func(x *api.SonarSearch) { x.Views[i].Cost = cost }) }
	many := slices.Repeat(exampleSearch().Views, 4)[:11]
	searches := []badSearch{
		{"nothing", api.SonarSearch{}, 0, api.ErrRange},
		{"Wide 0", with(func(x *api.SonarSearch) { x.Wide = 0 }), 0, api.ErrRange},
		{"Wide 13", with(func(x *api.SonarSearch) { x.Wide = 13 }), 0, api.ErrRange},
		{"High 0", with(func(x *api.SonarSearch) { x.High = 0 }), 0, api.ErrRange},
		{"High 13", with(func(x *api.SonarSearch) { x.High = 13 }), 0, api.ErrRange},
		{"size before views", with(func(x *api.SonarSearch) { x.High, x.Views = 13, many }), 0, api.ErrRange},
		{"11 views", with(func(x *api.SonarSearch) { x.Views = many }), 0, api.ErrLarge},
		{"11 views before their errors", with(func(x *api.SonarSearch) { x.Views, x.Wide = many, 1 }), 0, api.ErrLarge},
		{"cost -1", costing(1, -1), 1, api.ErrRange},
		{"cost 1001", costing(2, 1001), 2, api.ErrRange},
		{"the least int as a cost", costing(2, math.MinInt), 2, api.ErrRange},
		{"a ray before its cost", with(func(x *api.SonarSearch) { x.Views[1] = api.SonarView{Ray: rayOf(0, 0, 4, 0, true), Cost: -1} }), 1, api.ErrMissing},
		{"a cost before the next ray", with(func(x *api.SonarSearch) { x.Views[0].Cost, x.Views[1].Ray.To.X = -1, 4 }), 0, api.ErrRange},
		{"views before wanted cells", with(func(x *api.SonarSearch) { x.Views[2].Cost, x.Wanted = -1, []int{8} }), 2, api.ErrRange},
		{"the cell -1", wanting(-1, 3), 0, api.ErrMissing},
		{"the cell 8", wanting(3, 8), 1, api.ErrMissing},
		{"the least int as a cell", wanting(3, math.MinInt), 1, api.ErrMissing},
		{"the greatest int as a cell", wanting(3, math.MaxInt), 1, api.ErrMissing},
		{"a cell twice", wanting(2, 3, 3), 2, api.ErrOrder},
		{"the wrong order", wanting(2, 1, 8), 1, api.ErrOrder},
		{"missing before order", wanting(2, 3, -1), 2, api.ErrMissing},
		{"item by item", wanting(8, 3, 2), 0, api.ErrMissing},
	}
	for _, r := range badRays() {
		search := with(func(x *api.SonarSearch) { x.Views[2].Ray = r })
		searches = append(searches, badSearch{"a ray that leaves the grid", search, 2, api.ErrMissing})
	}
	return searches
}

func TestCheckSearch(t *testing.T) {
	for _, x := range []api.SonarSearch{
		exampleSearch(),
		{Wide: 1, High: 1},
		{Wide: 12, High: 12, Wanted: []int{0, 143}, Views: slices.Repeat([]api.SonarView{{Ray: rayOf(11, 0, 0, 11, true), Cost: 1000}}, 10)},
		{Wide: 1, High: 12, Wanted: []int{0, 1, 2, 3, 4, 5, 6, 7, 8, 9, 10, 11}},
	} {
		i, e := sonar.CheckSearch(x)
		want(t, "CheckSearch", i, e, 0, api.OK)
	}
	for _, c := range allBadSearches() {
		i, e := sonar.CheckSearch(c.search)
		want(t, "CheckSearch: "+c.name, i, e, c.index, c.err)
		l, n, e := sonar.CoverOf(c.search)
		want(t, "CoverOf: "+c.name, l, e, []int{}, c.err)
		want(t, "the cost of CoverOf: "+c.name, n, e, 0, c.err)
		n, e = sonar.CheckPrices(c.search, []int{-1})
		want(t, "CheckPrices: "+c.name, n, e, 0, c.err)
	}
}

// lineSearch is a search in one row of four cells.
func lineSearch(wanted []int, views ...[3]int) api.SonarSearch {
	x := api.SonarSearch{Wide: 4, High: 1, Wanted: wanted}
	for _, v := range views {
		x.Views = append(x.Views, api.SonarView{Ray: rayOf(v[0], 0, v[1], 0, true), Cost: v[2]})
	}
	return x
}

func TestCoverOf(t *testing.T) {
	cells := func(l ...int) []int { return l }
	for _, c := range []struct {
		name   string
		search api.SonarSearch
		cover  []int
		cost   int
		err    api.Errno
	}{
		{"example", exampleSearch(), cells(0, 2), 8, api.OK},
		{"nothing is wanted", lineSearch(nil, [3]int{0, 3, 1}), nil, 0, api.OK},
		{"nothing is wanted, views cost nothing", lineSearch(nil, [3]int{0, 3, 0}), nil, 0, api.OK},
		{"nothing at all", lineSearch(nil), nil, 0, api.OK},
		{"no views", lineSearch(cells(0)), nil, 0, api.ErrNone},
		{"a cell that no view crosses", lineSearch(cells(0, 3), [3]int{0, 2, 1}, [3]int{1, 2, 1}), nil, 0, api.ErrNone},
		{"a hit is crossed", lineSearch(cells(3), [3]int{0, 3, 7}), cells(0), 7, api.OK},
		{"two cheap ones are better than one", lineSearch(cells(0, 3), [3]int{0, 3, 5}, [3]int{0, 1, 2}, [3]int{2, 3, 2}), cells(1, 2), 4, api.OK},
		{"of the same cost the smaller one", lineSearch(cells(0, 3), [3]int{0, 1, 2}, [3]int{2, 3, 2}, [3]int{0, 3, 4}), cells(2), 4, api.OK},
		{"of the same size the first one", lineSearch(cells(0, 3), [3]int{1, 2, 0}, [3]int{0, 3, 4}, [3]int{0, 3, 4}), cells(1), 4, api.OK},
		{"of two pairs the first one", lineSearch(cells(0, 3), [3]int{0, 1, 2}, [3]int{0, 1, 1}, [3]int{2, 3, 1}, [3]int{2, 3, 2}), cells(1, 2), 2, api.OK},
		{"views that cost nothing are not added", lineSearch(cells(0), [3]int{0, 0, 3}, [3]int{1, 1, 0}), cells(0), 3, api.OK},
		{"views that cost nothing are used", lineSearch(cells(0, 1), [3]int{0, 1, 1}, [3]int{0, 0, 0}, [3]int{1, 1, 0}), cells(1, 2), 0, api.OK},
	} {
		l, n, e := sonar.CoverOf(c.search)
		want(t, "CoverOf: "+c.name, l, e, c.cover, c.err)
		want(t, "the cost of CoverOf: "+c.name, n, e, c.cost, c.err)
	}
}

func TestCheckPrices(t *testing.T) {
	prices := func(l ...int) []int { return l }
	line := lineSearch([]int{0, 1, 3}, [3]int{0, 1, 5}, [3]int{1, 3, 1000})
	for _, c := range []struct {
		name   string
		search api.SonarSearch
		prices []int
		sum    int
		err    api.Errno
	}{
		{"example", exampleSearch(), prices(5, 3), 8, api.OK},
		{"example with too much", exampleSearch(), prices(5, 4), 0, api.ErrProof},
		{"example with too much for the first view", exampleSearch(), prices(6, 3), 0, api.ErrProof},
		{"zeros", exampleSearch(), prices(0, 0), 0, api.OK},
		{"a sum as great as the cost", line, prices(2, 3, 997), 1002, api.OK},
		{"a sum greater than the cost", line, prices(2, 4, 0), 0, api.ErrProof},
		{"a sum greater than the last cost", line, prices(0, 1, 1000), 0, api.ErrProof},
		{"no cells are wanted", lineSearch(nil, [3]int{0, 3, 0}), nil, 0, api.OK},
		{"cells that no view crosses have any price", lineSearch([]int{0, 3}, [3]int{0, 0, 1}), prices(1, 1000), 1001, api.OK},
		{"without views", lineSearch([]int{0, 3}), prices(1000, 1000), 2000, api.OK},
		{"one too few", exampleSearch(), prices(5), 0, api.ErrShape},
		{"one too many", exampleSearch(), prices(5, 3, 0), 0, api.ErrShape},
		{"none", exampleSearch(), nil, 0, api.ErrShape},
		{"shape before range", exampleSearch(), prices(-1), 0, api.ErrShape},
		{"a price of -1", exampleSearch(), prices(5, -1), 0, api.ErrRange},
		{"a price of 1001", exampleSearch(), prices(1001, 3), 0, api.ErrRange},
		{"the least int as a price", exampleSearch(), prices(math.MinInt, 3), 0, api.ErrRange},
		{"range before proof", exampleSearch(), prices(6, -1), 0, api.ErrRange},
	} {
		n, e := sonar.CheckPrices(c.search, c.prices)
		want(t, "CheckPrices: "+c.name, n, e, c.sum, c.err)
	}
}

// covers is whether views cross all wanted cells.
func covers(x api.SonarSearch, views []int) bool {
	for _, cell := range x.Wanted {
		if !slices.ContainsFunc(views, func(i int) bool { return crosses(x.Views[i].Ray, x.Wide, cell) }) {
			return false
		}
	}
	return true
}

func costOf(x api.SonarSearch, views []int) int {
	cost := 0
	for _, i := range views {
		cost += x.Views[i].Cost
	}
	return cost
}

// bestCover is the first cheapest one of all covers, the smallest ones first.
func bestCover(x api.SonarSearch) (cover []int, err api.Errno) {
	err = api.ErrNone
	for _, views := range allSets(len(x.Views)) {
		if covers(x, views) && (err == api.ErrNone || costOf(x, views) < costOf(x, cover)) {
			cover, err = views, api.OK
		}
	}
	return cover, err
}

func TestCoversAreTheCheapest(t *testing.T) {
	r := newRandom()
	sizes, none := map[int]bool{}, 0
	for range 500 {
		x := randomSearch(r)
		cover, err := bestCover(x)
		l, n, e := sonar.CoverOf(x)
		want(t, "CoverOf", l, e, cover, err)
		want(t, "the cost of CoverOf", n, e, costOf(x, cover), err)
		sizes[len(cover)] = true
		if err != api.OK {
			none++
		}
	}
	if !sizes[1] || !sizes[2] || !sizes[3] || !sizes[4] || none == 0 {
		t.Errorf("covers of the sizes %v were tested, and %d searches without one", sizes, none)
	}
}

// raised are prices that are raised one after the other, in any order, as long as they are accepted.
func raised(r *rand.Rand, x api.SonarSearch) []int {
	prices := make([]int, len(x.Wanted))
	for _, k := range r.Perm(len(prices)) {
		for prices[k] < 20 {
			prices[k]++
			if _, e := sonar.CheckPrices(x, prices); e != api.OK {
				prices[k]--
				break
			}
		}
	}
	return prices
}

func TestNoCoverCostsLessThanPrices(t *testing.T) {
	r := newRandom()
	tight := 0
	for range 500 {
		x := randomSearch(r)
		_, cost, e := sonar.CoverOf(x)
		if e != api.OK {
			continue
		}
		prices := raised(r, x)
		wanted := 0
		for _, price := range prices {
			wanted += price
		}
		sum, e := sonar.CheckPrices(x, prices)
		want(t, "CheckPrices", sum, e, wanted, api.OK)
		if sum > cost {
			t.Errorf("%v: the prices %v cost more than the cover, which costs %d", x, prices, cost)
		}
		if sum == cost && cost > 0 {
			tight++
		}
	}
	if tight == 0 {
		t.Errorf("no prices were as great as the cost")
	}
}
