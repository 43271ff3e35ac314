package arm_test

import (
	"fmt"
	"math"
	"math/rand/v2"
	"slices"
	"testing"

	"moonpool/api"
	"moonpool/arm"
)

// P6.6, P6.13

func contactOf(x, y, normalX, normalY, most int) api.ArmContact {
	return api.ArmContact{Place: [2]int{x, y}, Normal: [2]int{normalX, normalY}, Most: most}
}

func fracOf(num, den int) api.Frac { return api.Frac{Num: num, Den: den} }

func holdOf(friction api.Frac, x, y, moment int, l ...api.ArmContact) api.ArmHold {
	return api.ArmHold{Contacts: l, Friction: friction, Load: [3]int{x, y, moment}}
}

// exampleHold is the hold of example 6.
func exampleHold() api.ArmHold {
	return holdOf(fracOf(1, 2), 0, -2, 0, contactOf(-1, 0, 1, 0, 4), contactOf(1, 0, -1, 0, 4))
}

func withHold(change func(h *api.ArmHold)) api.ArmHold {
	h := exampleHold()
	change(&h)
	return h
}

func withContact(c api.ArmContact) api.ArmHold {
	return withHold(func(h *api.ArmHold) { h.Contacts[1] = c })
}

func withFriction(num, den int) api.ArmHold {
	return withHold(func(h *api.ArmHold) { h.Friction = fracOf(num, den) })
}

func withLoad(x, y, moment int) api.ArmHold {
	return withHold(func(h *api.ArmHold) { h.Load = [3]int{x, y, moment} })
}

func TestHoldOf(t *testing.T) {
	pads := []api.ArmContact{contactOf(-1, 0, 1, 0, 4), contactOf(1, 0, -1, 0, 4)}
	below, above := contactOf(0, -1, 0, 1, 6), contactOf(0, 1, 0, -1, 6)
	for _, c := range []struct {
		name   string
		hold   api.ArmHold
		forces [][2]int
		err    api.Errno
	}{
		{"example 6", exampleHold(), [][2]int{{2, 1}, {2, -1}}, api.OK},
		{"nothing to hold", withLoad(0, 0, 0), [][2]int{{0, 0}, {0, 0}}, api.OK},
		{"nothing to hold by one contact", holdOf(fracOf(0, 1), 0, 0, 0, pads[0]), [][2]int{{0, 0}}, api.OK},
		{"from one side alone", holdOf(fracOf(1, 1), -3, 0, 0, pads[0]), [][2]int{{3, 0}}, api.OK},
		{"from the wrong side", holdOf(fracOf(1, 1), 3, 0, 0, pads[0]), nil, api.ErrNone},
		{"too much for one", holdOf(fracOf(1, 1), -5, 0, 0, pads[0]), nil, api.ErrNone},
		{"upwards on a pad", holdOf(fracOf(0, 1), 0, -6, 0, below), [][2]int{{6, 0}}, api.OK},
		{"downwards from a pad", holdOf(fracOf(0, 1), 0, 2, 0, below, above), [][2]int{{0, 0}, {2, 0}}, api.OK},
		{"the greatest friction", holdOf(fracOf(10, 1), 0, -2, 0, pads...), [][2]int{{1, 1}, {1, -1}}, api.OK},
		{"no more than Most across", holdOf(fracOf(10, 1), 0, -6, 0, contactOf(-1, 0, 1, 0, 2), contactOf(1, 0, -1, 0, 6)), nil, api.ErrNone},
		{"without friction", holdOf(fracOf(0, 1), 0, -2, 0, pads...), nil, api.ErrNone},
		{"without force", holdOf(fracOf(1, 2), 0, -2, 0, contactOf(-1, 0, 1, 0, 0), contactOf(1, 0, -1, 0, 0)), nil, api.ErrNone},
		{"a moment alone", holdOf(fracOf(1, 1), 0, 0, 4, pads...), [][2]int{{2, 2}, {2, 2}}, api.OK},
		{"a moment the other way", holdOf(fracOf(1, 1), 0, 0, -4, pads...), [][2]int{{2, -2}, {2, -2}}, api.OK},
		{"a moment that no pair has", holdOf(fracOf(1, 1), 0, 0, 1, pads...), nil, api.ErrNone},
		{"the least n first", holdOf(fracOf(1, 3), 0, 0, 0, contactOf(-1, 0, 1, 0, 6), contactOf(1, 0, -1, 0, 6), contactOf(0, -1, 0, 1, 6)), [][2]int{{0, 0}, {0, 0}, {0, 0}}, api.OK},
		{"the least t first", holdOf(fracOf(1, 1), 0, -2, 0, contactOf(0, 0, 1, 0, 3), contactOf(0, 0, -1, 0, 3)), [][2]int{{1, 1}, {1, -1}}, api.OK},
		{"t below 0 first", holdOf(fracOf(2, 1), -1, 0, 0, contactOf(0, 0, 1, 0, 6), contactOf(0, 0, 1, 0, 6), contactOf(0, 0, 1, 0, 6)), [][2]int{{0, 0}, {0, 0}, {1, 0}}, api.OK},
		{"three contacts", holdOf(fracOf(0, 1), 0, -6, 0, contactOf(-1, -1, 0, 1, 2), contactOf(0, -1, 0, 1, 2), contactOf(1, -1, 0, 1, 2)), [][2]int{{2, 0}, {2, 0}, {2, 0}}, api.OK},
		{"three contacts, the first one least", holdOf(fracOf(0, 1), 0, -4, 0, contactOf(-1, -1, 0, 1, 4), contactOf(0, -1, 0, 1, 4), contactOf(1, -1, 0, 1, 4)), [][2]int{{0, 0}, {4, 0}, {0, 0}}, api.OK},
	} {
		l, e := arm.HoldOf(c.hold)
		want(t, "HoldOf: "+c.name, l, e, c.forces, c.err)
		if c.err == api.OK {
			i, e := arm.CheckHold(c.hold, l)
			want(t, "CheckHold: "+c.name, i, e, 0, api.OK)
		}
	}
}

func TestCheckHold(t *testing.T) {
	for _, c := range []struct {
		name   string
		hold   api.ArmHold
		forces [][2]int
		index  int
		err    api.Errno
	}{
		{"example 6", exampleHold(), [][2]int{{2, 1}, {2, -1}}, 0, api.OK},
		{"another hold", exampleHold(), [][2]int{{4, 1}, {4, -1}}, 0, api.OK},
		{"no forces", exampleHold(), nil, 0, api.ErrShape},
		{"too few forces", exampleHold(), [][2]int{{2, 1}}, 0, api.ErrShape},
		{"too many forces", exampleHold(), [][2]int{{2, 1}, {2, -1}, {0, 0}}, 0, api.ErrShape},
		{"how many before each of them", exampleHold(), [][2]int{{-1, 1}}, 0, api.ErrShape},
		{"it pulls", exampleHold(), [][2]int{{2, 1}, {-1, 0}}, 1, api.ErrRange},
		{"it presses too much", exampleHold(), [][2]int{{5, 1}, {2, -1}}, 0, api.ErrRange},
		{"the least int", exampleHold(), [][2]int{{2, 1}, {math.MinInt, math.MinInt}}, 1, api.ErrRange},
		{"it slips", exampleHold(), [][2]int{{1, 1}, {2, -1}}, 0, api.ErrBreak},
		{"it slips the other way", exampleHold(), [][2]int{{2, 1}, {1, -1}}, 1, api.ErrBreak},
		{"it just does not slip", exampleHold(), [][2]int{{4, 2}, {4, 2}}, 0, api.ErrProof},
		{"the greatest int across", exampleHold(), [][2]int{{4, math.MaxInt}, {4, -1}}, 0, api.ErrBreak},
		{"the least int across", exampleHold(), [][2]int{{4, 1}, {4, math.MinInt}}, 1, api.ErrBreak},
		{"more across than Most", withFriction(10, 1), [][2]int{{4, 5}, {4, -5}}, 0, api.ErrBreak},
		{"as much across as Most", withFriction(10, 1), [][2]int{{1, 4}, {4, -4}}, 0, api.ErrProof},
		{"across without pressing", withFriction(10, 1), [][2]int{{0, 1}, {4, -1}}, 0, api.ErrBreak},
		{"across without friction", withFriction(0, 1), [][2]int{{4, 0}, {4, -1}}, 1, api.ErrBreak},
		{"pressing before slipping", exampleHold(), [][2]int{{5, 9}, {2, -1}}, 0, api.ErrRange},
		{"one by one, slipping first", exampleHold(), [][2]int{{2, 2}, {-1, 0}}, 0, api.ErrBreak},
		{"one by one, pressing first", exampleHold(), [][2]int{{-1, 0}, {2, 2}}, 0, api.ErrRange},
		{"slipping before what is not balanced", exampleHold(), [][2]int{{2, 1}, {4, -3}}, 1, api.ErrBreak},
		{"X is not balanced", exampleHold(), [][2]int{{2, 1}, {3, -1}}, 0, api.ErrProof},
		{"Y is not balanced", exampleHold(), [][2]int{{2, 0}, {2, 0}}, 0, api.ErrProof},
		{"the moment is not balanced", exampleHold(), [][2]int{{4, 2}, {4, 0}}, 0, api.ErrProof},
		{"the moment of the load is not balanced", withLoad(0, -2, 1), [][2]int{{2, 1}, {2, -1}}, 0, api.ErrProof},
		{"the force of the load is not balanced", withLoad(1, -2, 0), [][2]int{{2, 1}, {2, -1}}, 0, api.ErrProof},
	} {
		i, e := arm.CheckHold(c.hold, c.forces)
		want(t, "CheckHold: "+c.name, i, e, c.index, c.err)
	}
}

// badHold is a hold with its error.
type badHold struct {
	name string
	hold api.ArmHold
	err  api.Errno
}

func badHolds() []badHold {
	good := contactOf(0, 0, 1, 0, 1)
	return []badHold{
		{"no contacts", holdOf(fracOf(1, 2), 0, 0, 0), api.ErrShape},
		{"too many contacts", holdOf(fracOf(1, 2), 0, 0, 0, good, good, good, good), api.ErrLarge},
		{"no contacts before the friction", holdOf(fracOf(2, 2), 0, 0, 0), api.ErrShape},
		{"how many before each of them", holdOf(fracOf(1, 2), 0, 0, 0, good, good, good, contactOf(6, 0, 1, 0, 1)), api.ErrLarge},
		{"X of a place too great", withContact(contactOf(6, 0, 1, 0, 1)), api.ErrRange},
		{"X of a place too small", withContact(contactOf(-6, 0, 1, 0, 1)), api.ErrRange},
		{"Y of a place too great", withContact(contactOf(0, 6, 1, 0, 1)), api.ErrRange},
		{"Y of a place too small", withContact(contactOf(0, -6, 1, 0, 1)), api.ErrRange},
		{"the least int", withContact(contactOf(math.MinInt, 0, 1, 0, 1)), api.ErrRange},
		{"Most below 0", withContact(contactOf(0, 0, 1, 0, -1)), api.ErrRange},
		{"Most too great", withContact(contactOf(0, 0, 1, 0, 7)), api.ErrRange},
		{"no direction", withContact(contactOf(0, 0, 0, 0, 1)), api.ErrForm},
		{"two directions", withContact(contactOf(0, 0, 1, 1, 1)), api.ErrForm},
		{"too long a direction", withContact(contactOf(0, 0, 0, 2, 1)), api.ErrForm},
		{"a great direction", withContact(contactOf(0, 0, math.MinInt, math.MaxInt, 1)), api.ErrForm},
		{"Most before the direction", withContact(contactOf(0, 0, 0, 0, 7)), api.ErrRange},
		{"the place before the direction", withContact(contactOf(0, 6, 2, 0, 1)), api.ErrRange},
		{"contact by contact", holdOf(fracOf(1, 2), 0, 0, 0, contactOf(0, 0, 2, 0, 1), contactOf(6, 0, 1, 0, 1)), api.ErrForm},
		{"contacts before the friction", holdOf(fracOf(2, 2), 0, 0, 0, contactOf(6, 0, 1, 0, 1)), api.ErrRange},
		{"Den is 0", withFriction(1, 0), api.ErrForm},
		{"both are 0", withFriction(0, 0), api.ErrForm},
		{"Den below 0", withFriction(-1, -2), api.ErrForm},
		{"Den -1", withFriction(1, -1), api.ErrForm},
		{"not in lowest terms", withFriction(2, 4), api.ErrForm},
		{"0 not in lowest terms", withFriction(0, 2), api.ErrForm},
		{"great numbers not in lowest terms", withFriction(math.MinInt, 2), api.ErrForm},
		{"great numbers, Den below 0", withFriction(math.MinInt, math.MinInt), api.ErrForm},
		{"the form before the range", withFriction(22, 2), api.ErrForm},
		{"Num below 0", withFriction(-1, 2), api.ErrRange},
		{"Num too great", withFriction(11, 1), api.ErrRange},
		{"Den too great", withFriction(1, 11), api.ErrRange},
		{"the least Num", withFriction(math.MinInt, 1), api.ErrRange},
		{"the form of the friction before the load", withHold(func(h *api.ArmHold) { h.Friction, h.Load = fracOf(2, 2), [3]int{7, 0, 0} }), api.ErrForm},
		{"X of the load too great", withLoad(7, 0, 0), api.ErrRange},
		{"Y of the load too small", withLoad(0, -7, 0), api.ErrRange},
		{"the moment too great", withLoad(0, 0, 7), api.ErrRange},
		{"the least moment", withLoad(0, 0, math.MinInt), api.ErrRange},
	}
}

// TestBadHolds calls all functions of a hold.
func TestBadHolds(t *testing.T) {
	for _, c := range badHolds() {
		a := exampleArguments()
		a.hold = c.hold
		for _, x := range resultsOf(a) {
			if x.takes("hold") {
				x.wantError(t, c.name, c.err)
			}
		}
	}
	i, e := arm.CheckHold(withContact(contactOf(6, 0, 1, 0, 1)), [][2]int{{0, 0}, {0, 0}})
	want(t, "the index of a bad contact", i, e, 0, api.ErrRange)
}

// TestGreatestHolds has numbers that are just permitted.
func TestGreatestHolds(t *testing.T) {
	for _, h := range []api.ArmHold{
		holdOf(fracOf(10, 9), 6, 6, 6, contactOf(5, -5, 0, 1, 6), contactOf(-5, 5, 0, -1, 6), contactOf(5, 5, -1, 0, 6)),
		holdOf(fracOf(9, 10), -6, -6, -6, contactOf(5, -5, 0, 1, 0)),
		holdOf(fracOf(0, 1), 6, -6, 6, contactOf(0, 0, 1, 0, 6)),
		holdOf(fracOf(10, 1), 6, -6, 6, contactOf(0, 0, 1, 0, 6)),
		holdOf(fracOf(1, 10), 6, -6, 6, contactOf(0, 0, 1, 0, 6)),
	} {
		forces := make([][2]int, len(h.Contacts))
		i, e := arm.CheckHold(h, forces)
		want(t, fmt.Sprint("CheckHold of ", h), i, e, 0, api.ErrProof)
		if _, e := arm.HoldOf(h); e != api.OK && e != api.ErrNone {
			t.Errorf("HoldOf of %v: error %d", h, e)
		}
	}
}

// randomHold has a load for which there are forces that hold, most often.
func randomHold(r *rand.Rand) api.ArmHold {
	frictions := []api.Frac{fracOf(0, 1), fracOf(1, 2), fracOf(1, 3), fracOf(2, 3), fracOf(1, 1), fracOf(3, 2), fracOf(10, 1), fracOf(1, 10)}
	h := holdOf(frictions[r.IntN(len(frictions))], between(r, -2, 2), between(r, -2, 2), between(r, -3, 3))
	for range between(r, 1, 3) {
		d := turned([2]int{1, 0}, r.IntN(4))
		h.Contacts = append(h.Contacts, contactOf(between(r, -2, 2), between(r, -2, 2), d[0], d[1], r.IntN(4)))
	}
	if r.IntN(3) > 0 {
		h.Load = randomLoad(r, h)
	}
	return h
}

// randomLoad is one that some permitted forces hold, or that of the hold if it would be too great.
func randomLoad(r *rand.Rand, h api.ArmHold) [3]int {
	none := h
	none.Load = [3]int{}
	all := allForces(h)
	sum, moment := sumOf(none, all[r.IntN(len(all))])
	load := [3]int{-int(real(sum)), -int(imag(sum)), -int(moment)}
	for _, n := range load {
		if max(n, -n) > api.MaxArmForce {
			return h.Load
		}
	}
	return load
}

// sticks is whether the forces of a contact are permitted. The friction is compared as exact halves, thirds and tenths: by its 60-fold.
func sticks(h api.ArmHold, c api.ArmContact, force [2]int) bool {
	size := max(force[1], -force[1])
	return force[0] >= 0 && force[0] <= c.Most && size <= c.Most && 60*size <= 60*h.Friction.Num/h.Friction.Den*force[0]
}

// sumOf adds forces to a load as complex numbers: n along the normal, t a quarter to the left of it.
func sumOf(h api.ArmHold, forces [][2]int) (complex128, float64) {
	sum, moment := complex(float64(h.Load[0]), float64(h.Load[1])), float64(h.Load[2])
	for i, c := range h.Contacts {
		force := complex(float64(c.Normal[0]), float64(c.Normal[1])) * complex(float64(forces[i][0]), float64(forces[i][1]))
		sum += force
		moment += imag(complex(float64(c.Place[0]), -float64(c.Place[1])) * force)
	}
	return sum, moment
}

func isBalanced(h api.ArmHold, forces [][2]int) bool {
	sum, moment := sumOf(h, forces)
	return sum == 0 && moment == 0
}

// allForces are those of all contacts that are permitted, the lexicographically first ones first.
func allForces(h api.ArmHold) [][][2]int {
	all := [][][2]int{nil}
	for _, c := range h.Contacts {
		var longer [][][2]int
		for _, l := range all {
			for n := 0; n <= 6; n++ {
				for t := -6; t <= 6; t++ {
					if sticks(h, c, [2]int{n, t}) {
						longer = append(longer, append(slices.Clone(l), [2]int{n, t}))
					}
				}
			}
		}
		all = longer
	}
	return all
}

func TestHoldsOfAllForces(t *testing.T) {
	r := newRandom()
	var done [2]int
	for range 400 {
		h := randomHold(r)
		var first [][2]int
		err := api.ErrNone
		for _, l := range allForces(h) {
			wanted := api.ErrProof
			if isBalanced(h, l) {
				wanted = api.OK
				if err != api.OK {
					first, err = l, api.OK
				}
			}
			if wanted == api.OK || r.IntN(50) == 0 {
				i, e := arm.CheckHold(h, l)
				want(t, fmt.Sprint("CheckHold of ", h, l), i, e, 0, wanted)
			}
		}
		l, e := arm.HoldOf(h)
		want(t, fmt.Sprint("HoldOf of ", h), l, e, first, err)
		if err == api.OK {
			done[1]++
		} else {
			done[0]++
		}
	}
	if min(done[0], done[1]) < 50 {
		t.Errorf("so many have no hold, and one: %v: too few of one kind are tested", done)
	}
}

func TestForcesOfContacts(t *testing.T) {
	r := newRandom()
	var done [3]int
	for range 20000 {
		h := randomHold(r)
		h.Contacts = h.Contacts[:1]
		h.Load = randomLoad(r, h)
		force := [2]int{between(r, -1, 4), between(r, -5, 5)}
		c := h.Contacts[0]
		err := api.OK
		switch {
		case force[0] < 0 || force[0] > c.Most:
			err = api.ErrRange
		case !sticks(h, c, force):
			err = api.ErrBreak
		case !isBalanced(h, [][2]int{force}):
			err = api.ErrProof
		}
		i, e := arm.CheckHold(h, [][2]int{force})
		want(t, fmt.Sprint("CheckHold of ", h, force), i, e, 0, err)
		switch e {
		case api.OK:
			done[0]++
		case api.ErrBreak:
			done[1]++
		case api.ErrProof:
			done[2]++
		}
	}
	if min(done[0], done[1], done[2]) < 100 {
		t.Errorf("so many forces hold, slip, are not balanced: %v: too few of one kind are tested", done)
	}
}

// TestMoreIsPermitted has holds with a greater friction, or a greater force.
func TestMoreIsPermitted(t *testing.T) {
	r := newRandom()
	compared := 0
	for range 1000 {
		h := randomHold(r)
		forces, e := arm.HoldOf(h)
		if e != api.OK {
			continue
		}
		compared++
		rough := h
		rough.Friction = fracOf(10, 1)
		strong := h
		strong.Contacts = slices.Clone(h.Contacts)
		strong.Contacts[r.IntN(len(h.Contacts))].Most += between(r, 1, 3)
		for _, more := range []api.ArmHold{rough, strong} {
			i, e := arm.CheckHold(more, forces)
			want(t, fmt.Sprint("CheckHold of ", more, forces), i, e, 0, api.OK)
			l, e := arm.HoldOf(more)
			if e != api.OK || slices.CompareFunc(l, forces, func(a, b [2]int) int { return slices.Compare(a[:], b[:]) }) > 0 {
				t.Fatalf("HoldOf of %v: %v, error %d, after %v of %v", more, l, e, forces, h)
			}
		}
	}
	if compared < 200 {
		t.Errorf("only %d holds were compared", compared)
	}
}
