package fix

import (
	"moonpool/api"
	"moonpool/rules"
)

// gauge answers a reading for a box.
type gauge func(b box) int

// CheckReadings is in P5.3.
func CheckReadings(n api.FixNet, l []api.FixReading) (int, api.Errno) {
	if e := netError(n); e != api.OK {
		return 0, e
	}
	return rules.CheckList(l, 0, api.MaxFixReadings, func(r api.FixReading) api.Errno {
		count, least := coordinates, -api.MaxFixRange
		if r.Kind == api.FixRange {
			count, least = len(n.Beacons), 0
		}
		return rules.FirstError(
			rules.KindError(r.Kind, api.FixKinds),
			rules.IndexError(r.Index, count),
			rules.LimitsError(least, api.MaxFixRange, r.Value.Lo, r.Value.Hi),
			rules.OrderError(r.Value),
		)
	})
}

// AgreeingWith is in P5.3.
func AgreeingWith(n api.FixNet, l []api.FixReading, p api.FixPlace) ([]int, api.Errno) {
	if e := readingsError(n, l); e != api.OK {
		return nil, e
	}
	at := placeOf(p)
	if !at.alone().liesIn(boxOf(n.World)) {
		return nil, api.ErrRange
	}
	var agreeing []int
	for i, g := range newSearch(n, l).gauges {
		if g.agrees(at) {
			agreeing = append(agreeing, i)
		}
	}
	return agreeing, api.OK
}

// AnswersOf is in P5.3.
func AnswersOf(n api.FixNet, b api.FixBox, l []api.FixReading) ([]int, api.Errno) {
	if e := rules.FirstError(CheckBox(n, b), readingsError(n, l)); e != api.OK {
		return nil, e
	}
	var answers []int
	for _, g := range newSearch(n, l).gauges {
		answers = append(answers, g(boxOf(b)))
	}
	return answers, api.OK
}

func readingsError(n api.FixNet, l []api.FixReading) api.Errno {
	_, e := CheckReadings(n, l)
	return e
}

// newGauge compares what is measured of a box with the range in which that lies for positions that agree.
func newGauge(measure func(b box) api.Range, agreed api.Range) gauge {
	return func(b box) int {
		measured := measure(b)
		both := rules.Common(measured, agreed)
		switch {
		case both == measured:
			return api.AnswerYes
		case both.Lo > both.Hi:
			return api.AnswerNo
		}
		return api.AnswerMaybe
	}
}

// agrees is whether a position agrees with a reading: for a box of one position no answer is undecided.
func (g gauge) agrees(p place) bool { return g(p.alone()) == api.AnswerYes }
