package fix_test

import (
	"fmt"
	"math"
	"math/rand/v2"
	"slices"
	"testing"

	"moonpool/api"
	"moonpool/fix"
)

// P5.4, P5.8, P5.9

// field is the box of examples 4 and 5.
func field() api.FixBox { return boxOf(0, 6, 0, 0, 0, 4) }

func TestFixIn(t *testing.T) {
	between := []api.FixReading{rangeOf(0, 1, 1), rangeOf(0, 2, 2)}
	for _, c := range []struct {
		name     string
		box      api.FixBox
		readings []api.FixReading
		fix      api.FixBox
		count    int
		err      api.Errno
	}{
		{"example 4", field(), exampleReadings()[:2], boxOf(3, 3, 0, 0, 4, 4), 1, api.OK},
		{"example 5", field(), exampleReadings(), api.FixBox{}, 0, api.ErrNone},
		{"no readings", field(), nil, field(), 35, api.OK},
		{"one position", boxOf(3, 3, 0, 0, 4, 4), exampleReadings()[:2], boxOf(3, 3, 0, 0, 4, 4), 1, api.OK},
		{"one position beside it", boxOf(3, 3, 1, 1, 4, 4), exampleReadings()[:2], api.FixBox{}, 0, api.ErrNone},
		{"the beacon alone", boxOf(-10, 10, -10, 10, 0, 20), []api.FixReading{rangeOf(1, 0, 0)}, boxOf(6, 6, 0, 0, 0, 0), 1, api.OK},
		{"the beacon is not in the box", boxOf(-10, 5, -10, 10, 0, 20), []api.FixReading{rangeOf(1, 0, 0)}, api.FixBox{}, 0, api.ErrNone},
		{"around the beacon", boxOf(-10, 10, -10, 10, 0, 20), []api.FixReading{rangeOf(1, 1, 1)}, boxOf(5, 7, -1, 1, 0, 1), 5, api.OK},
		{"between two distances", boxOf(1, 1, 1, 1, 0, 0), between[:1], api.FixBox{}, 0, api.ErrNone},
		{"between two distances, too", boxOf(1, 1, 1, 1, 0, 0), between[1:], api.FixBox{}, 0, api.ErrNone},
		{"coordinates alone", boxOf(-10, 10, -10, 10, 0, 20), []api.FixReading{axisOf(0, 2, 30), axisOf(1, -30, -9), axisOf(2, 7, 7)}, boxOf(2, 10, -10, -9, 7, 7), 18, api.OK},
		{"positions around a hole", boxOf(0, 2, 0, 0, 0, 2), []api.FixReading{rangeOf(0, 2, 2)}, boxOf(0, 2, 0, 0, 0, 2), 2, api.OK},
	} {
		b, count, e := fix.FixIn(exampleNet(), c.box, c.readings)
		want(t, "FixIn: "+c.name, b, e, c.fix, c.err)
		want(t, "how many: FixIn: "+c.name, count, e, c.count, c.err)
	}
	n := worldOf(-3, 3, 0, 0, 0, 0)
	b, count, e := fix.FixIn(n, n.World, []api.FixReading{axisOf(0, -1, 9)})
	want(t, "FixIn without beacons", b, e, boxOf(-1, 3, 0, 0, 0, 0), api.OK)
	want(t, "how many without beacons", count, e, 5, api.OK)
}

func TestVotedIn(t *testing.T) {
	l := exampleReadings()
	twice := []api.FixReading{axisOf(0, 2, 2), axisOf(0, 2, 2), axisOf(0, 5, 5)}
	for _, c := range []struct {
		name  string
		vote  api.FixVote
		box   api.FixBox
		count int
		err   api.Errno
	}{
		{"example 5", voteOf(1, l...), boxOf(1, 5, 0, 0, 0, 4), 3, api.OK},
		{"none is wrong", voteOf(0, l...), api.FixBox{}, 0, api.ErrNone},
		{"none of two is wrong", voteOf(0, l[:2]...), boxOf(3, 3, 0, 0, 4, 4), 1, api.OK},
		{"all are wrong", voteOf(3, l...), field(), 35, api.OK},
		{"no readings", voteOf(0), field(), 35, api.OK},
		{"two are as good as one", voteOf(1, twice...), boxOf(2, 2, 0, 0, 0, 4), 5, api.OK},
		{"two wrong ones", voteOf(2, twice...), boxOf(2, 5, 0, 0, 0, 4), 10, api.OK},
		{"none can agree, all are wrong", voteOf(1, axisOf(1, 1, 2)), field(), 35, api.OK},
		{"none can agree", voteOf(0, axisOf(1, 1, 2)), api.FixBox{}, 0, api.ErrNone},
	} {
		b, count, e := fix.VotedIn(exampleNet(), field(), c.vote)
		want(t, "VotedIn: "+c.name, b, e, c.box, c.err)
		want(t, "how many: VotedIn: "+c.name, count, e, c.count, c.err)
	}
}

func TestWrongOf(t *testing.T) {
	l := exampleReadings()
	for _, c := range []struct {
		name     string
		box      api.FixBox
		readings []api.FixReading
		wrong    []int
		witness  api.FixPlace
	}{
		{"example 5", field(), l, []int{0}, placeOf(1, 0, 0)},
		{"example 5 in another order", field(), []api.FixReading{l[2], l[1], l[0]}, []int{0}, placeOf(3, 0, 4)},
		{"none", field(), l[:2], nil, placeOf(3, 0, 4)},
		{"no readings", boxOf(-2, 6, -1, 0, 3, 4), nil, nil, placeOf(-2, -1, 3)},
		{"X before Y before Z", boxOf(0, 1, 0, 1, 0, 1), []api.FixReading{rangeOf(0, 1, 1)}, nil, placeOf(0, 0, 1)},
		{"Y before Z", boxOf(0, 0, 0, 2, 0, 2), []api.FixReading{rangeOf(0, 2, 2)}, nil, placeOf(0, 0, 2)},
		{"all of them", field(), []api.FixReading{axisOf(1, 1, 9), axisOf(0, 7, 9)}, []int{0, 1}, placeOf(0, 0, 0)},
		{"one against two", field(), []api.FixReading{axisOf(0, 5, 5), axisOf(0, 2, 4), axisOf(0, 4, 5)}, []int{0}, placeOf(4, 0, 0)},
		{"two against three", field(), []api.FixReading{axisOf(0, 1, 1), axisOf(0, 2, 2), axisOf(0, 3, 3), axisOf(0, 3, 3), axisOf(0, 3, 4)}, []int{0, 1}, placeOf(3, 0, 0)},
		{"of two pairs the first one", field(), []api.FixReading{axisOf(0, 4, 4), axisOf(0, 2, 2), axisOf(0, 2, 2), axisOf(0, 4, 4)}, []int{0, 3}, placeOf(2, 0, 0)},
		{"the size before the order", field(), []api.FixReading{axisOf(0, 1, 1), axisOf(0, 1, 1), axisOf(0, 4, 4)}, []int{2}, placeOf(1, 0, 0)},
	} {
		wrong, p, e := fix.WrongOf(exampleNet(), c.box, c.readings)
		want(t, "WrongOf: "+c.name, wrong, e, c.wrong, api.OK)
		want(t, "the witness of WrongOf: "+c.name, p, e, c.witness, api.OK)
	}
}

// TestBadVotes calls all functions of votes with so many that may be wrong.
func TestBadVotes(t *testing.T) {
	for _, wrong := range []int{-1, 4, math.MinInt, math.MaxInt} {
		a := exampleArguments()
		a.vote.Wrong = wrong
		for _, x := range resultsOf(a) {
			if x.takes("wrong") {
				x.wantError(t, fmt.Sprint("Wrong is ", wrong), api.ErrRange)
			}
		}
	}
}

// TestLargeBoxes has boxes with just so many positions as can be searched, and with one more.
func TestLargeBoxes(t *testing.T) {
	n := greatNet()
	for _, b := range []api.FixBox{
		boxOf(-10000, 9999, 5, 5, 0, 0),
		boxOf(7, 7, -9999, 10000, 8, 8),
		boxOf(0, 1, 0, 0, 1, 10000),
		boxOf(0, 19, 0, 19, 0, 49),
	} {
		_, count, e := fix.FixIn(n, b, nil)
		want(t, "FixIn of 20000 positions", count, e, 20000, api.OK)
		_, count, e = fix.VotedIn(n, b, voteOf(1, axisOf(0, -30000, -30000)))
		want(t, "VotedIn of 20000 positions", count, e, 20000, api.OK)
		wrong, p, e := fix.WrongOf(n, b, []api.FixReading{axisOf(0, -30000, -30000)})
		want(t, "WrongOf of 20000 positions", wrong, e, []int{0}, api.OK)
		want(t, "the witness in 20000 positions", p, e, placeOf(b.X.Lo, b.Y.Lo, b.Z.Lo), api.OK)
	}
	for _, b := range []api.FixBox{
		boxOf(-10000, 10000, 5, 5, 0, 0),
		boxOf(7, 7, -10000, 10000, 8, 8),
		boxOf(0, 1, 0, 0, 0, 10000),
		n.World,
	} {
		a := exampleArguments()
		a.net, a.box, a.move = n, b, moveOf(0, 0, 0, 0, 0, 0, 0)
		a.steps = []api.FixStep{{}, {}}
		for _, x := range resultsOf(a) {
			switch {
			case x.takes("large"):
				x.wantError(t, fmt.Sprint(b), api.ErrLarge)
			case x.name == "Carried" || x.name == "CarriedBack":
				want(t, x.name, x.values[0], x.err, b, api.OK)
			}
		}
	}
}

// someSearch is a net, a box in it, and readings, most of them about one position of it.
func someSearch(r *rand.Rand) (api.FixNet, api.FixBox, []api.FixReading) {
	n := randomNet(r, 5)
	b := randomBox(r, n.World)
	return n, b, randomReadings(r, n, randomPlace(r, b), 8)
}

func TestVotesOfAllPositions(t *testing.T) {
	r := newRandom()
	for range 1000 {
		n, b, l := someSearch(r)
		for most := range len(l) + 1 {
			places := those(allIn(b), func(p api.FixPlace) bool { return len(wrongAt(n, l, p)) <= most })
			wanted, err := around(places)
			got, count, e := fix.VotedIn(n, b, voteOf(most, l...))
			want(t, fmt.Sprint("VotedIn of ", n, b, l, most), got, e, wanted, err)
			want(t, fmt.Sprint("how many of ", n, b, l, most), count, e, len(places), err)
			if most == 0 {
				got, count, e = fix.FixIn(n, b, l)
				want(t, fmt.Sprint("FixIn of ", n, b, l), got, e, wanted, err)
				want(t, fmt.Sprint("how many of ", n, b, l), count, e, len(places), err)
			}
		}
	}
}

// TestNoVoteIsSmaller has more readings that may be wrong, and fewer readings.
func TestNoVoteIsSmaller(t *testing.T) {
	r := newRandom()
	compared := 0
	for range 1000 {
		n, b, l := someSearch(r)
		if len(l) == 0 {
			continue
		}
		most, i := r.IntN(len(l)), r.IntN(len(l))
		got, count, e := fix.VotedIn(n, b, voteOf(most, l...))
		if e != api.OK {
			continue
		}
		compared++
		for _, v := range []api.FixVote{
			voteOf(most+1, l...),
			voteOf(min(most, len(l)-1), slices.Delete(slices.Clone(l), i, i+1)...),
		} {
			greater, more, e := fix.VotedIn(n, b, v)
			if e != api.OK || more < count || !isBoxIn(got, greater) {
				t.Fatalf("VotedIn of %v, %v, %v: %v with %d, error %d, is smaller than %v with %d", n, b, v, greater, more, e, got, count)
			}
		}
	}
	if compared < 500 {
		t.Errorf("only %d votes were compared", compared)
	}
}

// preceding is which of two sets comes first: the smaller one, of two of one size the lexicographically first one.
func preceding(a, b []int) int {
	if len(a) != len(b) {
		return len(a) - len(b)
	}
	return slices.Compare(a, b)
}

func TestWrongOfAllPositions(t *testing.T) {
	r := newRandom()
	var sizes [9]int
	for range 3000 {
		n, b, l := someSearch(r)
		wrong, witness, e := fix.WrongOf(n, b, l)
		sizes[len(wrong)]++
		all := allIn(b)
		least := wrongAt(n, l, all[0])
		for _, p := range all {
			if w := wrongAt(n, l, p); preceding(w, least) < 0 {
				least = w
			}
		}
		first := all[slices.IndexFunc(all, func(p api.FixPlace) bool { return slices.Equal(wrongAt(n, l, p), least) })]
		want(t, fmt.Sprint("WrongOf ", n, b, l), wrong, e, least, api.OK)
		want(t, fmt.Sprint("the witness of ", n, b, l), witness, e, first, api.OK)
		checkWrong(t, n, b, l)
	}
	if min(sizes[0], sizes[1], sizes[2]) < 20 {
		t.Errorf("so many have no, one, two wrong readings: %v: too few of one kind are tested", sizes)
	}
}

// checkWrong checks what follows from wrong readings and their witness.
func checkWrong(t *testing.T, n api.FixNet, b api.FixBox, l []api.FixReading) {
	t.Helper()
	wrong, witness, _ := fix.WrongOf(n, b, l)
	agreeing, _ := fix.AgreeingWith(n, l, witness)
	for i := range l {
		if slices.Contains(agreeing, i) == slices.Contains(wrong, i) {
			t.Fatalf("%v, %v, %v: the witness %v agrees with %v, while %v are wrong", n, b, l, witness, agreeing, wrong)
		}
	}
	if vote, _, e := fix.VotedIn(n, b, voteOf(len(wrong), l...)); e != api.OK || !isIn(witness, vote) {
		t.Fatalf("%v, %v, %v: the vote %v, error %d, has no witness %v", n, b, l, vote, e, witness)
	}
	for most := range len(wrong) {
		vote, _, e := fix.VotedIn(n, b, voteOf(most, l...))
		want(t, fmt.Sprint("VotedIn of ", n, b, l, most), vote, e, api.FixBox{}, api.ErrNone)
	}
}
