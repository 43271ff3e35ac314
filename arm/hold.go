package arm

import (
	"iter"

	"moonpool/api"
	"moonpool/rules"
)

// load is a force and a moment, as those of the load of a hold.
type load [3]int

// hold is a valid hold.
type hold struct {
	api.ArmHold
}

// CheckHold is in P6.6.
func CheckHold(h api.ArmHold, forces [][2]int) (int, api.Errno) {
	if e := holdError(h); e != api.OK {
		return 0, e
	}
	if len(forces) != len(h.Contacts) {
		return 0, api.ErrShape
	}
	left := load(h.Load)
	for i, c := range h.Contacts {
		if e := (hold{h}).forceError(c, forces[i]); e != api.OK {
			return i, e
		}
		left = left.with(c, forces[i])
	}
	if left != (load{}) {
		return 0, api.ErrProof
	}
	return 0, api.OK
}

// HoldOf is in P6.6.
func HoldOf(h api.ArmHold) ([][2]int, api.Errno) {
	if e := holdError(h); e != api.OK {
		return nil, e
	}
	forces, ok := hold{h}.first(h.Contacts, h.Load)
	if !ok {
		return nil, api.ErrNone
	}
	return forces, api.OK
}

func holdError(h api.ArmHold) api.Errno {
	_, e := rules.CheckList(h.Contacts, 1, api.MaxArmContacts, contactError)
	return rules.FirstError(e, frictionError(h.Friction), rules.SizeError(api.MaxArmForce, h.Load[:]...))
}

func contactError(c api.ArmContact) api.Errno {
	if e := rules.FirstError(rules.SizeError(api.MaxArmPlace, c.Place[:]...), rules.LimitError(c.Most, 0, api.MaxArmForce)); e != api.OK {
		return e
	}
	for turned := range wholeTurn {
		if direction(turned) == c.Normal {
			return api.OK
		}
	}
	return api.ErrForm
}

func frictionError(f api.Frac) api.Errno {
	return rules.FirstError(rules.LowestError(f), rules.LimitsError(0, api.MaxArmFriction, f.Num, f.Den))
}

// forceError is the error of the forces n and t of a contact.
func (h hold) forceError(c api.ArmContact, force [2]int) api.Errno {
	n, t := force[0], force[1]
	if n < 0 || n > c.Most {
		return api.ErrRange
	}
	if !rules.Within(t, c.Most) || !rules.Within(t*h.Friction.Den, n*h.Friction.Num) {
		return api.ErrBreak
	}
	return api.OK
}

// forces yields the forces that a contact may have, by n, then t.
func (h hold) forces(c api.ArmContact) iter.Seq[[2]int] {
	return func(yield func(force [2]int) bool) {
		for n := range c.Most + 1 {
			for t := -c.Most; t <= c.Most; t++ {
				force := [2]int{n, t}
				if h.forceError(c, force) == api.OK && !yield(force) {
					return
				}
			}
		}
	}
}

// with is a load together with the forces n and t of a contact.
func (x load) with(c api.ArmContact, force [2]int) load {
	n, t := force[0], force[1]
	forceX, forceY := n*c.Normal[0]-t*c.Normal[1], n*c.Normal[1]+t*c.Normal[0]
	return load{x[0] + forceX, x[1] + forceY, x[2] + c.Place[0]*forceY - c.Place[1]*forceX}
}

// first is the lexicographically first forces of contacts that hold a load. It is false if none do.
func (h hold) first(contacts []api.ArmContact, x load) ([][2]int, bool) {
	if len(contacts) == 0 {
		return nil, x == load{}
	}
	for force := range h.forces(contacts[0]) {
		if others, ok := h.first(contacts[1:], x.with(contacts[0], force)); ok {
			return append([][2]int{force}, others...), true
		}
	}
	return nil, false
}
