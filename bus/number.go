package bus

import (
	"iter"

	"moonpool/api"
	"moonpool/rules"
)

// accepted is the message of an accepted frame, its index, and how many numbers of its source were lost just before it.
type accepted struct {
	api.BusMessage
	index, lost int
}

// AcceptedOf is in P7.2.
func AcceptedOf(l [][api.BusBytes]int) ([]int, api.Errno) {
	if e := framesError(l); e != api.OK {
		return nil, e
	}
	var indexes []int
	for a := range acceptedIn(l) {
		indexes = append(indexes, a.index)
	}
	return indexes, api.OK
}

// LostOf is in P7.2.
func LostOf(l [][api.BusBytes]int, source int) ([]int, api.Errno) {
	if e := rules.FirstError(framesError(l), rules.LimitError(source, 0, api.BusSources-1)); e != api.OK {
		return nil, e
	}
	var lost []int
	for a := range acceptedIn(l) {
		if a.Source != source {
			continue
		}
		for i := range a.lost {
			lost = append(lost, difference(a.Number, a.lost-i))
		}
	}
	return lost, api.OK
}

func framesError(l [][api.BusBytes]int) api.Errno {
	if len(l) > api.MaxBusFrames {
		return api.ErrLarge
	}
	return api.OK
}

// acceptedIn yields the accepted frames.
func acceptedIn(l [][api.BusBytes]int) iter.Seq[accepted] {
	return func(yield func(a accepted) bool) {
		numbers := map[int]int{}
		for i, f := range l {
			m, e := Decoded(f)
			if e != api.OK {
				continue
			}
			// The first one of a source has a number that follows, as it were: nothing is lost before it.
			newer := 1
			if last, ok := numbers[m.Source]; ok {
				newer = difference(m.Number, last)
			}
			if rules.LimitError(newer, 1, api.BusNewer) != api.OK {
				continue
			}
			numbers[m.Source] = m.Number
			if !yield(accepted{m, i, newer - 1}) {
				return
			}
		}
	}
}

// difference is that of two bytes, modulo BusByte.
func difference(a, b int) int { return (a - b + api.BusByte) % api.BusByte }
