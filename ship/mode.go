package ship

import (
	"slices"

	"moonpool/api"
	"moonpool/bus"
	"moonpool/rules"
)

// ModeOf is in P10.3.
func ModeOf(n api.ShipNet, l []api.ShipEntry) (int, api.Errno) {
	h, _, e := replayed(n, l)
	if e != api.OK {
		return 0, e
	}
	return h.mode()
}

// mode is the mode, or ErrNone.
func (h *house) mode() (int, api.Errno) { return bus.ModeAfter(h.Bus, h.Failed) }

// worksError is ErrBreak if the mode does not permit tasks.
func (h *house) worksError() api.Errno {
	mode, e := h.mode()
	return errorIf(e != api.OK || mode > h.Works, api.ErrBreak)
}

// part is the index of a part, and whether it has failed, or ErrMissing.
func (h *house) part(name string) (part int, hasFailed bool, e api.Errno) {
	part = slices.Index(h.Bus.Parts, name)
	if part < 0 {
		return 0, false, api.ErrMissing
	}
	return part, slices.Contains(h.Failed, part), api.OK
}

// fail lets a part fail.
func (h *house) fail(x request) api.Errno {
	part, hasFailed, e := h.part(x.word)
	if e = rules.FirstError(e, errorIf(hasFailed, api.ErrDouble)); e != api.OK {
		return e
	}
	h.Failed = rules.SetOf(h.Failed...).With(part).Members()
	return api.OK
}

// repair repairs a part.
func (h *house) repair(x request) api.Errno {
	part, hasFailed, e := h.part(x.word)
	if e = rules.FirstError(e, errorIf(!hasFailed, api.ErrState)); e != api.OK {
		return e
	}
	h.Failed = slices.DeleteFunc(h.Failed, func(failed int) bool { return failed == part })
	return api.OK
}
