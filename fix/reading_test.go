package fix_test

import (
	"fmt"
	"math"
	"slices"
	"testing"

	"moonpool/api"
	"moonpool/fix"
)

// P5.3, P5.10

// badList is a list of readings of the example's net that CheckReadings refuses, with the index and the error.
type badList struct {
	name     string
	readings []api.FixReading
	index    int
	err      api.Errno
}

func badLists() []badList {
	good := rangeOf(1, 3, 7)
	of := func(kind, index, lo, hi int) []api.FixReading {
		return []api.FixReading{good, {Kind: kind, Index: index, Value: spanOf(lo, hi)}, axisOf(3, 1, 0)}
	}
	return []badList{
		{"nine", slices.Repeat([]api.FixReading{good}, 9), 0, api.ErrLarge},
		{"nine before their errors", slices.Repeat(of(-1, 0, 0, 0), 3), 0, api.ErrLarge},
		{"the kind -1", of(-1, 0, 0, 0), 1, api.ErrKind},
		{"the kind 2", of(2, 0, 0, 0), 1, api.ErrKind},
		{"the greatest int as a kind", of(math.MaxInt, 0, 0, 0), 1, api.ErrKind},
		{"a kind before its index", of(2, 9, 1, 0), 1, api.ErrKind},
		{"the beacon -1", of(api.FixRange, -1, 0, 0), 1, api.ErrMissing},
		{"the beacon 2", of(api.FixRange, 2, 0, 0), 1, api.ErrMissing},
		{"the least int as a beacon", of(api.FixRange, math.MinInt, 0, 0), 1, api.ErrMissing},
		{"the coordinate -1", of(api.FixAxis, -1, 0, 0), 1, api.ErrMissing},
		{"the coordinate 3", of(api.FixAxis, 3, 0, 0), 1, api.ErrMissing},
		{"the greatest int as a coordinate", of(api.FixAxis, math.MaxInt, 0, 0), 1, api.ErrMissing},
		{"an index before its range", of(api.FixRange, 2, -1, 0), 1, api.ErrMissing},
		{"a distance from -1", of(api.FixRange, 0, -1, 0), 1, api.ErrRange},
		{"a distance to -1", of(api.FixRange, 0, 0, -1), 1, api.ErrRange},
		{"a distance to 30001", of(api.FixRange, 0, 0, 30001), 1, api.ErrRange},
		{"a distance from 30001", of(api.FixRange, 0, 30001, 0), 1, api.ErrRange},
		{"a distance to the greatest int", of(api.FixRange, 0, 0, math.MaxInt), 1, api.ErrRange},
		{"a coordinate from -30001", of(api.FixAxis, 0, -30001, 0), 1, api.ErrRange},
		{"a coordinate to -30001", of(api.FixAxis, 0, 0, -30001), 1, api.ErrRange},
		{"a coordinate to 30001", of(api.FixAxis, 2, 0, 30001), 1, api.ErrRange},
		{"a coordinate from the least int", of(api.FixAxis, 2, math.MinInt, 0), 1, api.ErrRange},
		{"a distance in the wrong order", of(api.FixRange, 0, 8, 7), 1, api.ErrOrder},
		{"a coordinate in the wrong order", of(api.FixAxis, 1, -7, -8), 1, api.ErrOrder},
		{"the first one", of(api.FixAxis, 1, 0, 0)[2:], 0, api.ErrMissing},
		{"the last one", of(api.FixAxis, 2, -30000, 30000), 2, api.ErrMissing},
	}
}

func TestCheckReadings(t *testing.T) {
	empty := worldOf(0, 0, 0, 0, 0, 0)
	for _, c := range []struct {
		net      api.FixNet
		readings []api.FixReading
	}{
		{exampleNet(), nil},
		{exampleNet(), exampleReadings()},
		{exampleNet(), []api.FixReading{rangeOf(1, 0, 30000), axisOf(0, -30000, 30000), axisOf(1, 30000, 30000), axisOf(2, -1, -1)}},
		{exampleNet(), slices.Repeat(exampleReadings()[:2], 4)},
		{empty, nil},
		{empty, []api.FixReading{axisOf(0, 0, 0), axisOf(2, 5, 9)}},
	} {
		i, e := fix.CheckReadings(c.net, c.readings)
		want(t, fmt.Sprint("CheckReadings of ", c.readings), i, e, 0, api.OK)
	}
	i, e := fix.CheckReadings(empty, []api.FixReading{axisOf(1, 0, 0), rangeOf(0, 0, 0)})
	want(t, "CheckReadings without beacons", i, e, 1, api.ErrMissing)
	for _, c := range badLists() {
		i, e := fix.CheckReadings(exampleNet(), c.readings)
		want(t, "CheckReadings: "+c.name, i, e, c.index, c.err)
	}
}

// TestBadReadings calls all functions of readings, which all return their error, but not its index.
func TestBadReadings(t *testing.T) {
	for _, c := range badLists() {
		a := exampleArguments()
		a.readings, a.vote.Readings = c.readings, c.readings
		for _, x := range resultsOf(a) {
			if x.name != "CheckReadings" && (x.takes("readings") || x.takes("votes")) {
				x.wantError(t, c.name, c.err)
			}
		}
	}
}

func TestAgreeingWith(t *testing.T) {
	n := exampleNet()
	n.Beacons = append(n.Beacons, api.FixBeacon{Name: "above", Place: placeOf(0, 0, -30)})
	for _, c := range []struct {
		name     string
		place    api.FixPlace
		readings []api.FixReading
		agreeing []int
	}{
		{"example", placeOf(5, 0, 0), exampleReadings(), []int{0, 2}},
		{"no readings", placeOf(5, 0, 0), nil, nil},
		{"none of them", placeOf(0, 0, 2), exampleReadings(), nil},
		{"the coordinates", placeOf(1, 2, 3), []api.FixReading{axisOf(2, 3, 3), axisOf(0, 2, 3), axisOf(1, 2, 3), axisOf(0, 1, 1), axisOf(2, 2, 2)}, []int{0, 2, 3}},
		{"at the beacon", placeOf(6, 0, 0), []api.FixReading{rangeOf(1, 0, 0), rangeOf(0, 0, 0), rangeOf(0, 6, 6)}, []int{0, 2}},
		{"beside the beacon", placeOf(6, 0, 1), []api.FixReading{rangeOf(1, 0, 0), rangeOf(1, 0, 1), rangeOf(1, 1, 1)}, []int{1, 2}},
		{"between two distances", placeOf(1, 1, 0), []api.FixReading{rangeOf(0, 1, 1), rangeOf(0, 2, 2), rangeOf(0, 1, 2)}, []int{2}},
		{"a square above one of a distance", placeOf(1, 2, 2), []api.FixReading{rangeOf(0, 3, 3), rangeOf(0, 2, 3), rangeOf(0, 3, 4), rangeOf(0, 4, 4)}, []int{0, 1, 2}},
		{"outside of the world", placeOf(0, 0, 10), []api.FixReading{rangeOf(2, 40, 40), rangeOf(2, 0, 39), rangeOf(2, 41, 30000)}, []int{0}},
		{"in the corner of the world", placeOf(-10, 10, 20), []api.FixReading{axisOf(0, -30000, -10), axisOf(1, 10, 30000), axisOf(2, 0, 19)}, []int{0, 1}},
	} {
		l, e := fix.AgreeingWith(n, c.readings, c.place)
		want(t, "AgreeingWith: "+c.name, l, e, c.agreeing, api.OK)
	}
	for _, p := range []api.FixPlace{
		placeOf(-11, 0, 0), placeOf(11, 0, 0), placeOf(0, -11, 0), placeOf(0, 11, 0), placeOf(0, 0, -1), placeOf(0, 0, 21), placeOf(math.MinInt, math.MaxInt, 0),
	} {
		l, e := fix.AgreeingWith(n, exampleReadings(), p)
		want(t, fmt.Sprint("AgreeingWith ", p), l, e, []int{}, api.ErrRange)
	}
}

func TestAgreeingOfAllPositions(t *testing.T) {
	r := newRandom()
	for range 100 {
		n := randomNet(r, 5)
		l := randomReadings(r, n, randomPlace(r, n.World), 8)
		for _, p := range allIn(n.World) {
			agreeing, e := fix.AgreeingWith(n, l, p)
			wrong := wrongAt(n, l, p)
			both := slices.Sorted(slices.Values(slices.Concat(agreeing, wrong)))
			if e != api.OK || !slices.IsSorted(agreeing) || !slices.Equal(both, slices.Collect(numbersTo(len(l)))) {
				t.Fatalf("AgreeingWith of %v, %v, %v: %v, error %d, while %v are wrong", n, l, p, agreeing, e, wrong)
			}
		}
	}
}

// numbersTo yields the numbers from 0 to one less than the given one.
func numbersTo(count int) func(yield func(i int) bool) {
	return func(yield func(i int) bool) {
		for i := range count {
			if !yield(i) {
				return
			}
		}
	}
}

func TestAnswersOf(t *testing.T) {
	const no, maybe, yes = api.AnswerNo, api.AnswerMaybe, api.AnswerYes
	flat := boxOf(1, 2, 1, 1, 0, 0) // its squares from the beacon a are 2 and 5
	for _, c := range []struct {
		name    string
		box     api.FixBox
		reading api.FixReading
		answer  int
	}{
		{"range 1 from 3 to 7", exampleBox(), rangeOf(1, 3, 7), yes},
		{"range 1 from 1 to 3", exampleBox(), rangeOf(1, 1, 3), no},
		{"axis 0 from 4 to 9", exampleBox(), axisOf(0, 4, 9), maybe},
		{"all of a coordinate", exampleBox(), axisOf(0, 0, 4), yes},
		{"more than a coordinate", exampleBox(), axisOf(1, -30000, 30000), yes},
		{"all but the first one", exampleBox(), axisOf(0, 1, 4), maybe},
		{"all but the last one", exampleBox(), axisOf(0, 0, 3), maybe},
		{"the last one alone", exampleBox(), axisOf(0, 4, 4), maybe},
		{"the first one alone", exampleBox(), axisOf(0, -9, 0), maybe},
		{"in the middle", exampleBox(), axisOf(0, 2, 2), maybe},
		{"above", exampleBox(), axisOf(0, 5, 9), no},
		{"below", exampleBox(), axisOf(2, -2, 2), no},
		{"of one position", exampleBox(), axisOf(2, 3, 3), yes},
		{"squares 2 to 5 in 1 to 9", flat, rangeOf(0, 1, 3), yes},
		{"squares 2 to 5 and 4 to 9", flat, rangeOf(0, 2, 3), maybe},
		{"squares 2 to 5 and 1 to 4", flat, rangeOf(0, 1, 2), maybe},
		{"squares 2 to 5 and 4, with which none agrees", flat, rangeOf(0, 2, 2), maybe},
		{"squares 2 to 5 and 0 to 1", flat, rangeOf(0, 0, 1), no},
		{"squares 2 to 5 and 9", flat, rangeOf(0, 3, 3), no},
		{"squares 2 and 1", boxOf(1, 1, 1, 1, 0, 0), rangeOf(0, 1, 1), no},
		{"squares 2 and 4", boxOf(1, 1, 1, 1, 0, 0), rangeOf(0, 2, 2), no},
		{"at the beacon", boxOf(6, 6, 0, 0, 0, 0), rangeOf(1, 0, 0), yes},
		{"around the beacon", boxOf(5, 6, 0, 0, 0, 0), rangeOf(1, 0, 0), maybe},
		{"more positions than can be searched", boxOf(-10, 10, -10, 10, 0, 20), rangeOf(0, 0, 25), yes},
	} {
		l, e := fix.AnswersOf(exampleNet(), c.box, []api.FixReading{c.reading, axisOf(0, -10, 10)})
		want(t, "AnswersOf: "+c.name, l, e, []int{c.answer, yes}, api.OK)
	}
	l, e := fix.AnswersOf(exampleNet(), exampleBox(), nil)
	want(t, "AnswersOf no readings", l, e, []int{}, api.OK)
	l, e = fix.AnswersOf(greatNet(), greatNet().World, []api.FixReading{rangeOf(0, 0, 30000), rangeOf(1, 0, 9999), rangeOf(1, 10000, 10000)})
	want(t, "AnswersOf the greatest world", l, e, []int{yes, no, maybe}, api.OK)
}

// TestAnswersOfAllPositions asks all positions: a range alone may be undecided although they all say no.
func TestAnswersOfAllPositions(t *testing.T) {
	r := newRandom()
	var done [3]int
	for range 2000 {
		n := randomNet(r, 4)
		b := randomBox(r, n.World)
		for _, x := range randomReadings(r, n, randomPlace(r, n.World), 8) {
			answers, e := fix.AnswersOf(n, b, []api.FixReading{x})
			if e != api.OK || len(answers) != 1 {
				t.Fatalf("AnswersOf of %v, %v, %v: %v, error %d", n, b, x, answers, e)
			}
			all := allIn(b)
			agreeing := those(all, func(p api.FixPlace) bool { return agrees(n, x, p) })
			wanted := api.AnswerMaybe
			switch {
			case len(agreeing) == len(all):
				wanted = api.AnswerYes
			case isApart(n, x, all):
				wanted = api.AnswerNo
			}
			a := answers[0]
			if a != wanted || a == api.AnswerNo && len(agreeing) > 0 || x.Kind == api.FixAxis && a == api.AnswerMaybe && len(agreeing) == 0 {
				t.Fatalf("AnswersOf of %v, %v, %v: %d, want %d, while %d of %d agree", n, b, x, a, wanted, len(agreeing), len(all))
			}
			checkAnswer(t, n, b, x, a)
			done[a]++
		}
	}
	if min(done[0], done[1], done[2]) < 300 {
		t.Errorf("answers are %v: too few of one kind are tested", done)
	}
}

// isApart is whether what is read is greater than at all positions, or less than at all of them.
func isApart(n api.FixNet, x api.FixReading, all []api.FixPlace) bool {
	measure, agreed := func(p api.FixPlace) int { return numbersOf(p)[x.Index] }, x.Value
	if x.Kind == api.FixRange {
		measure = func(p api.FixPlace) int { return squareOf(p, n.Beacons[x.Index].Place) }
		agreed = spanOf(x.Value.Lo*x.Value.Lo, x.Value.Hi*x.Value.Hi)
	}
	return !slices.ContainsFunc(all, func(p api.FixPlace) bool { return measure(p) >= agreed.Lo }) ||
		!slices.ContainsFunc(all, func(p api.FixPlace) bool { return measure(p) <= agreed.Hi })
}

// checkAnswer checks what is said before a reading is used.
func checkAnswer(t *testing.T, n api.FixNet, b api.FixBox, x api.FixReading, answer int) {
	t.Helper()
	found, count, e := fix.FixIn(n, b, []api.FixReading{x})
	switch answer {
	case api.AnswerYes:
		want(t, "FixIn after AnswerYes", found, e, b, api.OK)
		want(t, "FixIn after AnswerYes", count, e, len(allIn(b)), api.OK)
	case api.AnswerNo:
		want(t, "FixIn after AnswerNo", found, e, api.FixBox{}, api.ErrNone)
	}
}
