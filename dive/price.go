package dive

import (
	"cmp"

	"moonpool/api"
	"moonpool/rules"
)

// BoundBy is in P8.4.
func BoundBy(d api.DiveSite, s api.DiveState, price api.Frac) (api.Frac, api.Errno) {
	x, e := newReturningDive(d, s)
	if e = rules.FirstError(e, rules.LowestError(price), numbersError(price.Num, price.Den)); e != api.OK {
		return api.Frac{}, e
	}
	return x.bound(price), api.OK
}

// BestPrice is in P8.4.
func BestPrice(d api.DiveSite, s api.DiveState) (api.Frac, api.Frac, api.Errno) {
	x, e := newReturningDive(d, s)
	if e != api.OK {
		return api.Frac{}, api.Frac{}, e
	}
	best := api.Frac{Den: 1}
	least := x.bound(best)
	for task, t := range x.Tasks {
		if x.isDone(task) || t.Power == 0 {
			continue
		}
		price := rules.Lowest(t.Value, t.Power)
		bound := x.bound(price)
		if cmp.Or(compare(bound, least), compare(price, best)) < 0 {
			best, least = price, bound
		}
	}
	return best, least, api.OK
}

// bound is the bound by a price.
func (d dive) bound(price api.Frac) api.Frac {
	sum := price.Num * (d.Power - d.Reserve)
	for task, t := range d.Tasks {
		if !d.isDone(task) {
			sum += max(0, t.Value*price.Den-price.Num*t.Power)
		}
	}
	return rules.Lowest(sum, price.Den)
}

// compare is the order of prices, or of their bounds.
func compare(a, b api.Frac) int { return cmp.Compare(a.Num*b.Den, b.Num*a.Den) }
