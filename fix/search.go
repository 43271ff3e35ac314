package fix

import (
	"iter"

	"moonpool/api"
	"moonpool/rules"
)

// search is a net, and the gauges of the readings by which positions are searched in it.
type search struct {
	api.FixNet
	gauges []gauge
}

// FixIn is in P5.4. The fix is the vote in which none may be wrong, and has its errors.
func FixIn(n api.FixNet, b api.FixBox, l []api.FixReading) (api.FixBox, int, api.Errno) {
	return VotedIn(n, b, api.FixVote{Readings: l})
}

// VotedIn is in P5.4.
func VotedIn(n api.FixNet, b api.FixBox, v api.FixVote) (api.FixBox, int, api.Errno) {
	if e := searchError(n, b, v); e != api.OK {
		return api.FixBox{}, 0, e
	}
	var vote box
	count := 0
	for p := range newSearch(n, v.Readings).voted(boxOf(b), v.Wrong) {
		if count == 0 {
			vote = p.alone()
		}
		vote = vote.with(p)
		count++
	}
	if count == 0 {
		return api.FixBox{}, 0, api.ErrNone
	}
	return vote.given(), count, api.OK
}

// WrongOf is in P5.4.
func WrongOf(n api.FixNet, b api.FixBox, l []api.FixReading) ([]int, api.FixPlace, api.Errno) {
	if e := searchError(n, b, api.FixVote{Readings: l}); e != api.OK {
		return nil, api.FixPlace{}, e
	}
	witnesses := newSearch(n, l).witnesses(boxOf(b))
	wrong, _ := rules.Minimum(len(l), func(s rules.Set) bool {
		_, ok := witnesses[s]
		return ok
	})
	return wrong.Members(), witnesses[wrong].given(), api.OK
}

// searchError is the error of a net, a box and a vote, and of the search in the box.
func searchError(n api.FixNet, b api.FixBox, v api.FixVote) api.Errno {
	if e := rules.FirstError(CheckBox(n, b), voteError(n, v)); e != api.OK {
		return e
	}
	if boxOf(b).size() > api.MaxFixCells {
		return api.ErrLarge
	}
	return api.OK
}

func voteError(n api.FixNet, v api.FixVote) api.Errno {
	return rules.FirstError(readingsError(n, v.Readings), wrongError(v))
}

func wrongError(v api.FixVote) api.Errno { return rules.LimitError(v.Wrong, 0, len(v.Readings)) }

func newSearch(n api.FixNet, l []api.FixReading) search {
	s := search{FixNet: n}
	for _, r := range l {
		s.gauges = append(s.gauges, s.gaugeOf(r))
	}
	return s
}

func (s search) gaugeOf(r api.FixReading) gauge {
	if r.Kind == api.FixAxis {
		measures := [coordinates]func(b box) api.Range{box.x, box.y, box.z}
		return newGauge(measures[r.Index], r.Value)
	}
	beacon := placeOf(s.Beacons[r.Index].Place)
	return newGauge(beacon.squaresTo, api.Range{Lo: square(r.Value.Lo), Hi: square(r.Value.Hi)})
}

// wrongAt is the readings with which a position does not agree.
func (s search) wrongAt(p place) rules.Set {
	var wrong rules.Set
	for i, g := range s.gauges {
		if !g.agrees(p) {
			wrong = wrong.With(i)
		}
	}
	return wrong
}

// voted yields the positions of a box that agree with all readings but at most so many.
func (s search) voted(b box, most int) iter.Seq[place] {
	return func(yield func(p place) bool) {
		for p := range b.places() {
			if s.wrongAt(p).Size() <= most && !yield(p) {
				return
			}
		}
	}
}

// witnesses are, by the readings with which they do not agree, the first such positions of a box.
func (s search) witnesses(b box) map[rules.Set]place {
	first := map[rules.Set]place{}
	for p := range b.places() {
		wrong := s.wrongAt(p)
		if _, ok := first[wrong]; !ok {
			first[wrong] = p
		}
	}
	return first
}
