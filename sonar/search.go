package sonar

import (
	"slices"

	"moonpool/api"
	"moonpool/rules"
)

// CheckSearch is in P4.5.
func CheckSearch(x api.SonarSearch) (int, api.Errno) {
	g := grid{x.Wide, x.High}
	if e := g.sizeError(); e != api.OK {
		return 0, e
	}
	i, e := rules.CheckList(x.Views, 0, api.MaxSonarRays, func(v api.SonarView) api.Errno {
		return rules.FirstError(g.rayError(v.Ray), costError(v.Cost))
	})
	if e != api.OK {
		return i, e
	}
	return rules.FirstBad(x.Wanted, rules.SetErrors(g.cells()))
}

// CoverOf is in P4.5.
func CoverOf(x api.SonarSearch) ([]int, int, api.Errno) {
	if e := searchError(x); e != api.OK {
		return nil, 0, e
	}
	crossing := crossingOf(x)
	cover, cost, ok := rules.Best(len(x.Views), func(views rules.Set) (int, bool) {
		isMissed := func(by rules.Set) bool { return by&views == 0 }
		return costOf(x, views), !slices.ContainsFunc(crossing, isMissed)
	})
	if !ok {
		return nil, 0, api.ErrNone
	}
	return cover.Members(), cost, api.OK
}

// CheckPrices is in P4.5.
func CheckPrices(x api.SonarSearch, prices []int) (int, api.Errno) {
	if e := searchError(x); e != api.OK {
		return 0, e
	}
	if len(prices) != len(x.Wanted) {
		return 0, api.ErrShape
	}
	if _, e := rules.FirstBad(prices, costError); e != api.OK {
		return 0, e
	}
	sum, sums := 0, make([]int, len(x.Views))
	for k, by := range crossingOf(x) {
		sum += prices[k]
		for _, i := range by.Members() {
			sums[i] += prices[k]
		}
	}
	for i, v := range x.Views {
		if sums[i] > v.Cost {
			return 0, api.ErrProof
		}
	}
	return sum, api.OK
}

func searchError(x api.SonarSearch) api.Errno {
	_, e := CheckSearch(x)
	return e
}

// costError is the error of a cost, or of a price.
func costError(cost int) api.Errno { return rules.LimitError(cost, 0, api.MaxSonarCost) }

// crossingOf is, for each wanted cell, the views that cross it.
func crossingOf(x api.SonarSearch) []rules.Set {
	rays := make([]api.SonarRay, len(x.Views))
	for i, v := range x.Views {
		rays[i] = v.Ray
	}
	seen := grid{x.Wide, x.High}.seen(rays)
	crossing := make([]rules.Set, len(x.Wanted))
	for k, cell := range x.Wanted {
		crossing[k] = seen[cell].crossing()
	}
	return crossing
}

// costOf is the sum of the costs of views.
func costOf(x api.SonarSearch, views rules.Set) int {
	cost := 0
	for _, i := range views.Members() {
		cost += x.Views[i].Cost
	}
	return cost
}
