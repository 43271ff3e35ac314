// Package cable is chapter 1: cables in currents, their tensions and shapes. See shared/doc/01-cable.md.
package cable

import (
	"iter"

	"moonpool/api"
)

// line is a given cable, with what follows from it.
type line struct{ api.CableLine }

// pull is a link, with what currents do to it: the range of X of its tension, and Z.
type pull struct {
	api.CableLink
	X api.Range
	Z int
}

// lifts yields each link, and Z of its tension. No current changes it, so that slack needs no currents.
func (l line) lifts() iter.Seq2[int, int] {
	return func(yield func(link, z int) bool) {
		z := l.Load.Z
		for i, k := range l.Links {
			z += k.Weight
			if !yield(i, z) {
				return
			}
		}
	}
}

// pulls yields the pull of each link over a box that fits the line.
func (l line) pulls(box []api.Range) iter.Seq[pull] {
	return func(yield func(p pull) bool) {
		x := api.Range{Lo: l.Load.X, Hi: l.Load.X}
		for i, z := range l.lifts() {
			x = l.carried(x, i, i+1, box)
			if !yield(pull{CableLink: l.Links[i], X: x, Z: z}) {
				return
			}
		}
	}
}

// carried is a range of X below the link from, after the drag of this link and the others below the link to.
// Drags are not negative, so that the ends of currents give the ends of X.
func (l line) carried(x api.Range, from, to int, box []api.Range) api.Range {
	for i := from; i < to; i++ {
		x.Lo += l.Links[i].Drag * box[i].Lo
		x.Hi += l.Links[i].Drag * box[i].Hi
	}
	return x
}

// total is the sum of a range of each pull over a box.
func (l line) total(box []api.Range, part func(pull) api.Range) api.Range {
	var sum api.Range
	for p := range l.pulls(box) {
		r := part(p)
		sum.Lo += r.Lo
		sum.Hi += r.Hi
	}
	return sum
}

// still is the box of single currents.
func still(currents []int) []api.Range {
	box := make([]api.Range, len(currents))
	for i, c := range currents {
		box[i] = api.Range{Lo: c, Hi: c}
	}
	return box
}
