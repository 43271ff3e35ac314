package ship

import (
	"moonpool/api"
	"moonpool/fix"
	"moonpool/rules"
)

// nothing is the answer if there is nothing of what was asked.
const nothing = "-"

// question is the form of a question, and what answers it.
type question struct {
	form   string
	answer func(p parts) (string, api.Errno)
}

// Answer is in P10.7.
func Answer(n api.ShipNet, l []api.ShipEntry, asked string) (string, api.Errno) {
	h, _, e := replayed(n, l)
	if e != api.OK {
		return "", e
	}
	q, ok := h.questions()[firstWord(asked)]
	if !ok {
		return "", api.ErrSyntax
	}
	p, ok := partsOf(asked, q.form)
	if !ok {
		return "", api.ErrSyntax
	}
	return q.answer(p)
}

// questions are the questions, by their first words.
func (h *house) questions() map[string]question {
	return map[string]question{
		"count":  {"", func(parts) (string, api.Errno) { return rules.Written(len(h.log)), api.OK }},
		"failed": {"", func(parts) (string, api.Errno) { return h.failedParts(), api.OK }},
		"mode":   {"", func(parts) (string, api.Errno) { return h.modeName(), api.OK }},
		"dive": {"n", func(p parts) (string, api.Errno) {
			d, e := numbered(h.Dives, p.number)
			return answered(d, e, aboutDive)
		}},
		"sample": {"t", func(p parts) (string, api.Errno) {
			s, e := h.tagged(p.tag)
			return answered(s, e, aboutSample)
		}},
		"chain": {"t", func(p parts) (string, api.Errno) {
			s, e := h.tagged(p.tag)
			return answered(s, e, holders)
		}},
	}
}

// answered is what is told about an item, or the error with which it was not found.
func answered[T any](item *T, e api.Errno, tell func(item T) string) (string, api.Errno) {
	if e != api.OK {
		return "", e
	}
	return tell(*item), api.OK
}

func (h *house) failedParts() string {
	return orNothing(rules.Joined(h.Failed, ",", func(part int) string { return h.Bus.Parts[part] }))
}

func (h *house) modeName() string {
	mode, e := h.mode()
	if e != api.OK {
		return nothing
	}
	return h.Bus.Modes[mode].Name
}

func aboutDive(d api.ShipDive) string {
	state := "home"
	if d.Open {
		state = "open"
	}
	return state + " " + d.Pilot + " " + fix.FormatBox(d.Box)
}

func aboutSample(s api.ShipSample) string {
	return holder(s) + " " + rules.Written(s.Amount) + " " + orNothing(s.Lab)
}

func holders(s api.ShipSample) string {
	return rules.Joined(s.Chain, ",", func(x api.ShipLink) string { return x.To })
}

func orNothing(s string) string {
	if s == "" {
		return nothing
	}
	return s
}
