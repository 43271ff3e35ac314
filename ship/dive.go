package ship

import (
	"slices"

	"moonpool/api"
	"moonpool/dive"
	"moonpool/fix"
	"moonpool/rules"
)

// DiveOf is in P10.3.
func DiveOf(n api.ShipNet, l []api.ShipEntry, number int) (api.ShipDive, api.Errno) {
	s, e := StateOf(n, l)
	if e != api.OK {
		return api.ShipDive{}, e
	}
	d, e := numbered(s.Dives, number)
	if e != api.OK {
		return api.ShipDive{}, e
	}
	return *d, api.OK
}

// BoxAt is in P10.4.
func BoxAt(n api.ShipNet, l []api.ShipEntry, x api.ShipLook) (api.FixBox, api.Errno) {
	s, e := StateAt(n, l, x.At)
	if e != api.OK {
		return api.FixBox{}, e
	}
	d, e := numbered(s.Dives, x.Dive)
	if e != api.OK {
		return api.FixBox{}, e
	}
	return d.Box, api.OK
}

// ReturnOf is in P10.4.
func ReturnOf(n api.ShipNet, l []api.ShipEntry, number int) (api.DiveReturn, api.Errno) {
	d, e := DiveOf(n, l, number)
	if e != api.OK {
		return api.DiveReturn{}, e
	}
	return dive.ReturnFrom(n.Site, d.State)
}

// permit makes a permit.
func (h *house) permit(x request) api.Errno {
	plan, e := dive.ParsePlan(x.rest)
	if e != api.OK {
		return e
	}
	_, e = dive.CheckPlan(h.Site, h.Begin, plan)
	if e = rules.FirstError(e, errorIf(len(h.Permits) >= api.MaxShipPermits, api.ErrFull)); e != api.OK {
		return e
	}
	h.Permits = append(h.Permits, api.ShipPermit{Plan: plan})
	return api.OK
}

// unusedPermit is the permit with a number, ErrMissing if there is none, or ErrState if it is used.
func (h *house) unusedPermit(number int) (*api.ShipPermit, api.Errno) {
	p, e := numbered(h.Permits, number)
	if e != api.OK {
		return nil, e
	}
	if p.Used {
		return nil, api.ErrState
	}
	return p, api.OK
}

// sign signs a permit.
func (h *house) sign(x request) api.Errno {
	p, e := h.unusedPermit(x.number)
	if e != api.OK {
		return e
	}
	if slices.Contains(p.Signed, x.By) {
		return api.ErrDouble
	}
	p.Signed = append(p.Signed, x.By)
	return api.OK
}

// begin begins a dive.
func (h *house) begin(x request) api.Errno {
	p, e := h.unusedPermit(x.number)
	if e != api.OK {
		return e
	}
	_, openError := h.openDive()
	e = rules.FirstError(
		errorIf(len(p.Signed) < api.ShipSigns || !slices.Contains(p.Signed, x.By), api.ErrRefused),
		errorIf(openError == api.OK, api.ErrBusy),
		h.worksError(),
		errorIf(len(h.Dives) >= api.MaxShipDives, api.ErrFull),
	)
	if e != api.OK {
		return e
	}
	p.Used = true
	h.Dives = append(h.Dives, api.ShipDive{
		Permit: x.number - 1,
		Pilot:  x.By,
		State:  copyOfState(h.Begin),
		Box:    h.Start,
		Open:   true,
	})
	return api.OK
}

// openDive is the index of the open dive, or ErrNone.
func (h *house) openDive() (int, api.Errno) {
	i := slices.IndexFunc(h.Dives, func(d api.ShipDive) bool { return d.Open })
	if i < 0 {
		return 0, api.ErrNone
	}
	return i, api.OK
}

// pilotedDive is the open dive, ErrNone if there is none, or ErrState if the person is not its pilot.
func (h *house) pilotedDive(person string) (*api.ShipDive, api.Errno) {
	i, e := h.openDive()
	if e != api.OK {
		return nil, e
	}
	if h.Dives[i].Pilot != person {
		return nil, api.ErrState
	}
	return &h.Dives[i], api.OK
}

// move moves the vehicle. The errors of fix.After begin with those of the step alone.
func (h *house) move(x request) api.Errno {
	d, e := h.pilotedDive(x.By)
	if e != api.OK {
		return e
	}
	step, e := fix.ParseStep(x.rest)
	if e != api.OK {
		return e
	}
	box, e := fix.After(h.Fix, d.Box, step)
	if e != api.OK {
		return e
	}
	d.Box = box
	return api.OK
}

// task does the next task.
func (h *house) task(x request) api.Errno {
	d, e := h.pilotedDive(x.By)
	if e != api.OK {
		return e
	}
	left := h.Permits[d.Permit].Plan[len(d.Tasks):]
	isNext := len(left) > 0 && left[0] == x.number
	if e := rules.FirstError(h.worksError(), errorIf(!isNext, api.ErrClash)); e != api.OK {
		return e
	}
	after, e := dive.StepBy(h.Site, d.State, x.number)
	if e != api.OK {
		return e
	}
	d.State = after
	d.Tasks = append(d.Tasks, x.number)
	return api.OK
}

// handOver hands the dive over to another pilot.
func (h *house) handOver(x request) api.Errno {
	d, e := h.pilotedDive(x.By)
	if e != api.OK {
		return e
	}
	e = rules.FirstError(h.rankError(x.word, api.ShipPilot), errorIf(x.word == d.Pilot, api.ErrDouble))
	if e != api.OK {
		return e
	}
	d.Pilot = x.word
	return api.OK
}

// goHome ends the dive.
func (h *house) goHome(x request) api.Errno {
	d, e := h.pilotedDive(x.By)
	if e != api.OK {
		return e
	}
	d.Open = false
	return api.OK
}
