package thrust

import (
	"moonpool/api"
	"moonpool/rules"
)

// LeastOf is in P3.2.
func LeastOf(l []api.Thruster, wanted [3]int) (api.ThrustSetting, api.Errno) {
	x, e := PricesOf(l, wanted)
	if e != api.OK {
		return api.ThrustSetting{}, e
	}
	v := newVehicle(l)
	parts := make([]int, len(v))
	for i, t := range v {
		parts[i] = t.product(x.Parts)
	}
	den, parts := lowest(x.Den, parts...)
	return api.ThrustSetting{Den: den, Parts: parts}, api.OK
}

// PricesOf is in P3.2. What prices give is the sum of the rows of the squares times them.
func PricesOf(l []api.Thruster, wanted [3]int) (api.ThrustPrices, api.Errno) {
	if e := rankError(l, wanted); e != api.OK {
		return api.ThrustPrices{}, e
	}
	rows := newVehicle(l).squares()
	shares, den := sharesFor(rows[:], wanted)
	den, parts := lowest(den, shares...)
	return api.ThrustPrices{Den: den, Parts: [3]int(parts)}, api.OK
}

// CheckLeast is in P3.2. It compares fractions in lowest terms, because products of parts and denominators might overflow.
func CheckLeast(l []api.Thruster, wanted [3]int, s api.ThrustSetting, x api.ThrustPrices) (int, api.Errno) {
	if e := rankError(l, wanted); e != api.OK {
		return 0, e
	}
	e := rules.FirstError(partsError(l, s), fractionsError(len(x.Parts), x.Den, x.Parts[:]...))
	if e != api.OK {
		return 0, e
	}
	v := newVehicle(l)
	given := v.gives(s.Parts)
	for k, n := range wanted {
		if given[k] != n*s.Den {
			return k, api.ErrProof
		}
	}
	return v.refusal(api.ErrClash, func(i int) bool {
		return rules.Lowest(s.Parts[i], s.Den) != rules.Lowest(v[i].product(x.Parts), x.Den)
	})
}

// rankError is the error of thrusters and a wanted force, and ErrOpen if the rank is less than 3.
func rankError(l []api.Thruster, wanted [3]int) api.Errno {
	if e := rules.FirstError(thrustersError(l), wantedError(wanted)); e != api.OK {
		return e
	}
	rows := newVehicle(l).squares()
	if rows[0].product(rows[1].cross(rows[2])) == 0 {
		return api.ErrOpen
	}
	return api.OK
}

// squares are the products of the coordinates of columns, summed up over all thrusters.
// Their determinant is the sum of the squares of those of any three columns: it is 0 exactly if the rank is less than 3.
func (v vehicle) squares() [3]column {
	var rows [3]column
	for _, t := range v {
		for k, n := range t.column {
			rows[k] = rows[k].plus(t.column, n)
		}
	}
	return rows
}
