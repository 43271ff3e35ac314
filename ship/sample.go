package ship

import (
	"slices"

	"moonpool/api"
	"moonpool/rules"
)

// ChainOf is in P10.5.
func ChainOf(n api.ShipNet, l []api.ShipEntry, tag string) ([]api.ShipLink, api.Errno) {
	h, _, e := replayed(n, l)
	if e != api.OK {
		return nil, e
	}
	s, e := h.tagged(tag)
	if e != api.OK {
		return nil, e
	}
	return s.Chain, api.OK
}

// AmountsOf is in P10.5.
func AmountsOf(n api.ShipNet, l []api.ShipEntry, tag string) (api.ShipAmounts, api.Errno) {
	h, _, e := replayed(n, l)
	if e != api.OK {
		return api.ShipAmounts{}, e
	}
	if _, e := h.tagged(tag); e != api.OK {
		return api.ShipAmounts{}, e
	}
	sources := h.sources()
	var sum api.ShipAmounts
	for _, s := range h.Samples {
		if sources[s.Tag] == sources[tag] {
			sum.Left += s.Amount
			sum.Used += s.Used
			sum.Taken += s.Taken
		}
	}
	return sum, api.OK
}

// sources are the tags of the sources of all samples, by their tags. Each sample stands after the one from which it was split.
func (h *house) sources() map[string]string {
	sources := map[string]string{}
	for _, s := range h.Samples {
		sources[s.Tag] = s.Tag
		if !isTaken(s) {
			sources[s.Tag] = sources[s.Origin]
		}
	}
	return sources
}

// isTaken is whether a sample was taken, not split.
func isTaken(s api.ShipSample) bool { return s.Origin == "" }

// tagged is the sample with a tag, or ErrMissing.
func (h *house) tagged(tag string) (*api.ShipSample, api.Errno) {
	return first(h.Samples, func(s api.ShipSample) bool { return s.Tag == tag })
}

// held is the sample with a tag, ErrMissing if there is none, or ErrState if the person is not its holder.
func (h *house) held(tag, person string) (*api.ShipSample, api.Errno) {
	s, e := h.tagged(tag)
	if e != api.OK {
		return nil, e
	}
	if holder(*s) != person {
		return nil, api.ErrState
	}
	return s, api.OK
}

func holder(s api.ShipSample) string { return s.Chain[len(s.Chain)-1].To }

// newTagError is ErrName if a tag is not a name, ErrExists if some sample has it.
func (h *house) newTagError(tag string) api.Errno {
	_, e := h.tagged(tag)
	return rules.FirstError(rules.NameError(tag), errorIf(e == api.OK, api.ErrExists))
}

// samplesError is ErrFull if there may be no more samples.
func (h *house) samplesError() api.Errno {
	return errorIf(len(h.Samples) >= api.MaxShipSamples, api.ErrFull)
}

// sample takes a sample.
func (h *house) sample(x request) api.Errno {
	i, openError := h.openDive()
	e := rules.FirstError(
		h.newTagError(x.tag),
		openError,
		rules.LimitError(x.number, 1, api.MaxShipAmount),
		rules.NameError(x.word),
		h.samplesError(),
	)
	if e != api.OK {
		return e
	}
	h.Samples = append(h.Samples, api.ShipSample{
		Tag:          x.tag,
		Preservative: x.word,
		Dive:         i,
		At:           x.At,
		Box:          h.Dives[i].Box,
		Amount:       x.number,
		Taken:        x.number,
		Chain:        []api.ShipLink{{At: x.At, To: x.By}},
	})
	return api.OK
}

// split splits a sample.
func (h *house) split(x request) api.Errno {
	s, e := h.held(x.tag, x.By)
	if e != api.OK {
		return e
	}
	e = rules.FirstError(
		h.newTagError(x.word),
		rules.LimitError(x.number, 1, s.Amount-1),
		h.samplesError(),
	)
	if e != api.OK {
		return e
	}
	s.Amount -= x.number
	h.Samples = append(h.Samples, api.ShipSample{
		Tag:          x.word,
		Origin:       x.tag,
		Preservative: s.Preservative,
		Dive:         s.Dive,
		At:           s.At,
		Box:          s.Box,
		Amount:       x.number,
		Chain:        slices.Clone(s.Chain),
	})
	return api.OK
}

// use uses some of a sample.
func (h *house) use(x request) api.Errno {
	s, e := h.held(x.tag, x.By)
	if e != api.OK {
		return e
	}
	if e := rules.LimitError(x.number, 1, s.Amount); e != api.OK {
		return e
	}
	s.Amount -= x.number
	s.Used += x.number
	return api.OK
}

// transfer gives a sample to another holder.
func (h *house) transfer(x request) api.Errno {
	s, e := h.held(x.tag, x.By)
	if e != api.OK {
		return e
	}
	e = rules.FirstError(h.rankError(x.word, api.ShipScientist), errorIf(x.word == x.By, api.ErrDouble))
	if e != api.OK {
		return e
	}
	s.Chain = append(s.Chain, api.ShipLink{At: x.At, From: x.By, To: x.word})
	return api.OK
}

// label gives a sample its laboratory number.
func (h *house) label(x request) api.Errno {
	s, e := h.held(x.tag, x.By)
	if e != api.OK {
		return e
	}
	_, otherError := first(h.Samples, func(s api.ShipSample) bool { return s.Lab == x.word })
	e = rules.FirstError(
		rules.NameError(x.word),
		errorIf(s.Lab != "", api.ErrDouble),
		errorIf(otherError == api.OK, api.ErrExists),
	)
	if e != api.OK {
		return e
	}
	s.Lab = x.word
	return api.OK
}
