package fix_test

import (
	"fmt"
	"math"
	"math/rand/v2"
	"slices"
	"testing"

	"moonpool/api"
	"moonpool/fix"
)

// P5.5, P5.11

// stay is a move in which nothing happens.
func stay() api.FixMove { return api.FixMove{} }

func stepOf(m api.FixMove, wrong int, l ...api.FixReading) api.FixStep {
	return api.FixStep{Move: m, Vote: voteOf(wrong, l...)}
}

// along is the box of example 7 with these ends of X.
func along(lo, hi int) api.FixBox { return boxOf(lo, hi, 0, 0, 0, 0) }

// badSteps are steps of the example's net that CheckSteps refuses, with the index and the error.
type badSteps struct {
	name  string
	steps []api.FixStep
	index int
	err   api.Errno
}

func allBadSteps() []badSteps {
	fast, back := moveOf(1, 0, 101, 0, 0, 0, 0), moveOf(1, 1, 0, 0, 0, 0, 0)
	missing := stepOf(stay(), 0, axisOf(3, 0, 0))
	all := []badSteps{
		{"seven", make([]api.FixStep, 7), 0, api.ErrLarge},
		{"seven before their errors", slices.Repeat([]api.FixStep{missing}, 7), 0, api.ErrLarge},
		{"a move that is too fast", []api.FixStep{{}, {Move: fast}, missing}, 1, api.ErrRange},
		{"a move in the wrong order", []api.FixStep{{}, {}, {Move: back}}, 2, api.ErrOrder},
		{"a move before its vote", []api.FixStep{stepOf(back, 9, axisOf(3, 0, 0))}, 0, api.ErrOrder},
		{"readings before Wrong", []api.FixStep{{}, stepOf(stay(), 9, axisOf(3, 0, 0))}, 1, api.ErrMissing},
		{"Wrong is 2", []api.FixStep{{}, stepOf(stay(), 2, axisOf(0, 0, 0)), {Move: back}}, 1, api.ErrRange},
		{"Wrong is 1", []api.FixStep{{}, {}, {}, {}, {}, stepOf(stay(), 1)}, 5, api.ErrRange},
		{"Wrong is -1", []api.FixStep{stepOf(stay(), -1, axisOf(0, 0, 0))}, 0, api.ErrRange},
	}
	for err, moves := range badMoves() {
		for _, m := range moves {
			all = append(all, badSteps{fmt.Sprint(m), []api.FixStep{{}, stepOf(m, -1)}, 1, err})
		}
	}
	for _, c := range badLists() {
		all = append(all, badSteps{c.name, []api.FixStep{{}, {}, stepOf(stay(), -1, c.readings...)}, 2, c.err})
	}
	return all
}

func TestCheckSteps(t *testing.T) {
	for _, l := range [][]api.FixStep{
		nil,
		exampleSteps(),
		make([]api.FixStep, 6),
		{stepOf(moveOf(1000, -100, 100, 100, 100, -100, -100), 8, slices.Repeat(exampleReadings()[:1], 8)...)},
		{stepOf(stay(), 1, axisOf(2, 30000, 30000))},
	} {
		i, e := fix.CheckSteps(exampleNet(), l)
		want(t, fmt.Sprint("CheckSteps of ", l), i, e, 0, api.OK)
	}
	for _, c := range allBadSteps() {
		i, e := fix.CheckSteps(exampleNet(), c.steps)
		want(t, "CheckSteps: "+c.name, i, e, c.index, c.err)
	}
}

// TestBadSteps calls all functions of steps, which all return their error, but not its index.
func TestBadSteps(t *testing.T) {
	for _, c := range allBadSteps() {
		a := exampleArguments()
		a.steps, a.path = c.steps, nil
		for _, x := range resultsOf(a) {
			if x.name != "CheckSteps" && x.takes("steps") {
				x.wantError(t, c.name, c.err)
			}
		}
	}
}

func TestAfter(t *testing.T) {
	x := moveOf(1, 0, 2, 0, 0, 0, 0)
	for _, c := range []struct {
		name  string
		net   api.FixNet
		box   api.FixBox
		step  api.FixStep
		after api.FixBox
		err   api.Errno
	}{
		{"example 7, step 1", exampleNet(), along(0, 0), stepOf(x, 0), along(0, 2), api.OK},
		{"example 7, step 2", exampleNet(), along(0, 2), stepOf(x, 0, axisOf(0, 4, 9)), along(4, 4), api.OK},
		{"a range", exampleNet(), along(0, 2), stepOf(x, 0, rangeOf(1, 3, 4)), along(2, 3), api.OK},
		{"one that may be wrong", exampleNet(), along(0, 2), stepOf(x, 1, axisOf(0, 1, 3), axisOf(0, 7, 9)), along(1, 3), api.OK},
		{"one that is wrong", exampleNet(), along(0, 2), stepOf(x, 0, axisOf(0, 1, 3), axisOf(0, 7, 9)), api.FixBox{}, api.ErrNone},
		{"agreed before the move alone", exampleNet(), along(0, 0), stepOf(moveOf(1, 1, 2, 0, 0, 0, 0), 0, axisOf(0, 0, 0)), api.FixBox{}, api.ErrNone},
		{"agreed outside of the world alone", exampleNet(), along(9, 10), stepOf(moveOf(1, 0, 2, 0, 0, 0, 0), 0, axisOf(0, 11, 12)), api.FixBox{}, api.ErrNone},
		{"out of the world", exampleNet(), along(9, 10), stepOf(moveOf(1, 2, 3, 0, 0, 0, 0), 0), api.FixBox{}, api.ErrNone},
		{"out of the world with bad readings", exampleNet(), along(9, 10), stepOf(moveOf(1, 2, 3, 0, 0, 0, 0), 1), api.FixBox{}, api.ErrRange},
		{"out of the world, before the search", greatNet(), greatNet().World, stepOf(moveOf(1000, 100, 100, 0, 0, 0, 0), 0), api.FixBox{}, api.ErrNone},
		{"more positions than can be searched", greatNet(), along(0, 0), stepOf(moveOf(201, 0, 50, 0, 1, 0, 1), 0), api.FixBox{}, api.ErrLarge},
		{"too many before readings with which none agrees", greatNet(), along(0, 0), stepOf(moveOf(201, 0, 50, 0, 1, 0, 1), 0, axisOf(0, -1, -1)), api.FixBox{}, api.ErrLarge},
		{"more than can be searched, but not after the move", greatNet(), boxOf(-10000, 10000, 0, 9, 0, 0), stepOf(moveOf(1000, 19, 19, 0, 0, 0, 0), 0, axisOf(1, -7, 0)), boxOf(9000, 10000, 0, 0, 0, 0), api.OK},
	} {
		b, e := fix.After(c.net, c.box, c.step)
		want(t, "After: "+c.name, b, e, c.after, c.err)
	}
}

func TestTrackOfExamples(t *testing.T) {
	x := moveOf(1, 0, 2, 0, 0, 0, 0)
	for _, c := range []struct {
		name            string
		box             api.FixBox
		steps           []api.FixStep
		track, smoothed []api.FixBox
		err             api.Errno
	}{
		{"example 7", along(0, 0), exampleSteps(), []api.FixBox{along(0, 2), along(4, 4)}, []api.FixBox{along(0, 0), along(2, 2), along(4, 4)}, api.OK},
		{"no steps", field(), nil, nil, []api.FixBox{field()}, api.OK},
		{"no steps, and more positions than can be searched", boxOf(-10, 10, -10, 10, 0, 20), nil, nil, []api.FixBox{boxOf(-10, 10, -10, 10, 0, 20)}, api.OK},
		{"the box before all steps", along(-5, 5), []api.FixStep{stepOf(x, 0, axisOf(0, 7, 9))}, []api.FixBox{along(7, 7)}, []api.FixBox{along(5, 5), along(7, 7)}, api.OK},
		{"readings before the last step", along(-5, 5), []api.FixStep{stepOf(x, 0, axisOf(0, 0, 1)), stepOf(x, 0)}, []api.FixBox{along(0, 1), along(0, 3)}, []api.FixBox{along(-2, 1), along(0, 1), along(0, 3)}, api.OK},
		{"carried back out of the world", along(-10, 10), []api.FixStep{stepOf(x, 0, axisOf(0, -10, -9))}, []api.FixBox{along(-10, -9)}, []api.FixBox{along(-10, -9), along(-10, -9)}, api.OK},
		{"none left in the first step", along(0, 0), []api.FixStep{stepOf(x, 0, axisOf(0, 3, 9)), stepOf(moveOf(1000, 9, 9, 0, 0, 0, 0), 0)}, nil, nil, api.ErrNone},
		{"out of the world in the second step", along(0, 0), []api.FixStep{{Move: x}, {Move: moveOf(11, 1, 1, 0, 0, 0, 0)}}, nil, nil, api.ErrNone},
		{"to all of the world", along(0, 0), []api.FixStep{{Move: x}, {Move: moveOf(1000, 0, 100, -100, 100, 0, 100)}}, []api.FixBox{along(0, 2), boxOf(0, 10, -10, 10, 0, 20)}, []api.FixBox{along(0, 0), along(0, 2), boxOf(0, 10, -10, 10, 0, 20)}, api.OK},
	} {
		track, e := fix.TrackOf(exampleNet(), c.box, c.steps)
		want(t, "TrackOf: "+c.name, track, e, c.track, c.err)
		smoothed, e := fix.SmoothedOf(exampleNet(), c.box, c.steps)
		want(t, "SmoothedOf: "+c.name, smoothed, e, c.smoothed, c.err)
	}
}

// TestTrackErrorsStepByStep has one error after another one: that of the earlier step counts.
func TestTrackErrorsStepByStep(t *testing.T) {
	wide, off := moveOf(1000, -100, 100, -100, 100, -100, 100), stepOf(stay(), 0, axisOf(0, -1, -1))
	for _, c := range []struct {
		steps []api.FixStep
		err   api.Errno
	}{
		{[]api.FixStep{{}, {Move: wide}, off}, api.ErrLarge},
		{[]api.FixStep{{}, off, {Move: wide}}, api.ErrNone},
		{[]api.FixStep{{}, off, stepOf(wide, 1)}, api.ErrRange},
	} {
		track, e := fix.TrackOf(greatNet(), along(0, 0), c.steps)
		want(t, "TrackOf", track, e, []api.FixBox{}, c.err)
		smoothed, e := fix.SmoothedOf(greatNet(), along(0, 0), c.steps)
		want(t, "SmoothedOf", smoothed, e, []api.FixBox{}, c.err)
	}
}

func TestIsPath(t *testing.T) {
	at := func(x int) api.FixPlace { return placeOf(x, 0, 0) }
	for _, c := range []struct {
		name string
		path []api.FixPlace
		is   bool
	}{
		{"0, 2, 4", []api.FixPlace{at(0), at(2), at(4)}, true},
		{"0, 1, 4", []api.FixPlace{at(0), at(1), at(4)}, false},
		{"0, 2, 3", []api.FixPlace{at(0), at(2), at(3)}, false},
		{"0, 2, 5", []api.FixPlace{at(0), at(2), at(5)}, false},
		{"0, 3, 4", []api.FixPlace{at(0), at(3), at(4)}, false},
		{"0, -1, 4", []api.FixPlace{at(0), at(-1), at(4)}, false},
		{"outside of the box", []api.FixPlace{at(1), at(2), at(4)}, false},
		{"beside the line before", []api.FixPlace{placeOf(0, 1, 0), at(2), at(4)}, false},
		{"beside the line between", []api.FixPlace{at(0), placeOf(2, 1, 0), at(4)}, false},
		{"beside the line after", []api.FixPlace{at(0), at(2), placeOf(4, 0, 1)}, false},
		{"the least int", []api.FixPlace{at(math.MinInt), at(2), at(4)}, false},
		{"the greatest int", []api.FixPlace{at(0), at(math.MaxInt), at(math.MinInt)}, false},
	} {
		is, e := fix.IsPath(exampleNet(), along(0, 0), exampleSteps(), c.path)
		want(t, "IsPath of "+c.name, is, e, c.is, api.OK)
	}
	for count := range 6 {
		is, e := fix.IsPath(exampleNet(), along(0, 0), exampleSteps(), make([]api.FixPlace, count))
		err := api.ErrShape
		if count == 3 {
			err = api.OK
		}
		want(t, fmt.Sprint("IsPath of so many positions: ", count), is, e, false, err)
	}
}

func TestIsPathOfOddSteps(t *testing.T) {
	path := func(x ...int) []api.FixPlace {
		var l []api.FixPlace
		for _, x := range x {
			l = append(l, placeOf(x, 0, 0))
		}
		return l
	}
	right := moveOf(1, 1, 3, 0, 0, 0, 0)
	three := []api.FixReading{axisOf(0, 8, 8), axisOf(0, 9, 9), axisOf(1, 0, 0)}
	great := greatNet()
	for _, c := range []struct {
		name  string
		net   api.FixNet
		box   api.FixBox
		steps []api.FixStep
		path  []api.FixPlace
		is    bool
		err   api.Errno
	}{
		{"no steps", exampleNet(), along(0, 2), nil, path(2), true, api.OK},
		{"no steps, outside of the box", exampleNet(), along(0, 2), nil, path(3), false, api.OK},
		{"no steps, no positions", exampleNet(), along(0, 2), nil, nil, false, api.ErrShape},
		{"one of two may be wrong", exampleNet(), along(5, 8), []api.FixStep{stepOf(right, 1, three...)}, path(7, 8), true, api.OK},
		{"two are wrong", exampleNet(), along(5, 8), []api.FixStep{stepOf(right, 1, three...)}, path(7, 10), false, api.OK},
		{"two may be wrong", exampleNet(), along(5, 8), []api.FixStep{stepOf(right, 2, three...)}, path(7, 10), true, api.OK},
		{"out of the world", exampleNet(), along(5, 8), []api.FixStep{stepOf(right, 3, three...)}, path(8, 11), false, api.OK},
		{"no track", exampleNet(), along(5, 8), []api.FixStep{stepOf(right, 0, three...)}, path(7, 8), false, api.OK},
		{"a box that can't be searched", great, great.World, []api.FixStep{{Move: right}}, path(-10000, -9997), true, api.OK},
		{"the last corner of the world", great, great.World, []api.FixStep{{Move: moveOf(1000, 20, 20, -20, -20, 10, 10)}}, []api.FixPlace{placeOf(-10000, 10000, 0), placeOf(10000, -10000, 10000)}, true, api.OK},
	} {
		is, e := fix.IsPath(c.net, c.box, c.steps, c.path)
		want(t, "IsPath: "+c.name, is, e, c.is, c.err)
	}
}

// someTrack is a net, a box in it, and steps, most of which some path takes.
func someTrack(r *rand.Rand) (api.FixNet, api.FixBox, []api.FixStep) {
	n := randomNet(r, 3)
	b := randomBox(r, n.World)
	return n, b, randomSteps(r, n, b, r.IntN(4))
}

// allPaths are those for a box and steps, found by trying all positions of the world.
func allPaths(n api.FixNet, b api.FixBox, l []api.FixStep) [][]api.FixPlace {
	var paths [][]api.FixPlace
	for _, p := range allIn(b) {
		paths = append(paths, []api.FixPlace{p})
	}
	for _, s := range l {
		ends := those(allIn(n.World), func(p api.FixPlace) bool { return len(wrongAt(n, s.Vote.Readings, p)) <= s.Vote.Wrong })
		var longer [][]api.FixPlace
		for _, path := range paths {
			for _, p := range ends {
				if leads(s.Move, path[len(path)-1], p) {
					longer = append(longer, append(slices.Clone(path), p))
				}
			}
		}
		paths = longer
	}
	return paths
}

// TestTracksOfAllPositions follows positions, not boxes.
func TestTracksOfAllPositions(t *testing.T) {
	r := newRandom()
	done := 0
	for range 500 {
		n, b, l := someTrack(r)
		boxes, e := tracked(n, b, l)
		got, err := fix.TrackOf(n, b, l)
		want(t, fmt.Sprint("TrackOf ", n, b, l), got, err, boxes, e)
		for i, s := range l[:len(got)] {
			after, e := fix.After(n, append([]api.FixBox{b}, got...)[i], s)
			want(t, "After", after, e, got[i], api.OK)
		}
		if e != api.OK {
			boxes = nil
		} else {
			done++
			boxes = smoothed(append([]api.FixBox{b}, boxes...), l)
		}
		got, err = fix.SmoothedOf(n, b, l)
		want(t, fmt.Sprint("SmoothedOf ", n, b, l), got, err, boxes, e)
	}
	if done < 100 || done > 400 {
		t.Errorf("%d of 500 have a track: too few of one kind are tested", done)
	}
}

func tracked(n api.FixNet, b api.FixBox, l []api.FixStep) ([]api.FixBox, api.Errno) {
	var track []api.FixBox
	for _, s := range l {
		after, e := around(those(reached(n.World, b, s.Move), func(p api.FixPlace) bool {
			return len(wrongAt(n, s.Vote.Readings, p)) <= s.Vote.Wrong
		}))
		if e != api.OK {
			return nil, e
		}
		track = append(track, after)
		b = after
	}
	return track, api.OK
}

func smoothed(boxes []api.FixBox, l []api.FixStep) []api.FixBox {
	for i, s := range slices.Backward(l) {
		boxes[i], _ = around(reaching(boxes[i], boxes[i+1], s.Move))
	}
	return boxes
}

// TestEveryTruePath finds all paths, each of which IsPath accepts, and whose positions lie in the boxes of the track, and in smoothed ones.
func TestEveryTruePath(t *testing.T) {
	r := newRandom()
	found := 0
	for range 2000 {
		n, b, l := someTrack(r)
		track, e := fix.TrackOf(n, b, l)
		smoothed, err := fix.SmoothedOf(n, b, l)
		paths := allPaths(n, b, l)
		if e != err || e != api.OK && len(paths) > 0 {
			t.Fatalf("%v, %v, %v: errors %d and %d, and %d paths", n, b, l, e, err, len(paths))
		}
		found += len(paths)
		track = append([]api.FixBox{b}, track...)
		for i, x := range smoothed {
			if !isBoxIn(x, track[i]) || x.X.Lo > x.X.Hi || x.Y.Lo > x.Y.Hi || x.Z.Lo > x.Z.Hi {
				t.Fatalf("%v, %v, %v: %v is smoothed to %v", n, b, l, track[i], x)
			}
		}
		for _, path := range paths[:min(len(paths), 100)] {
			is, e := fix.IsPath(n, b, l, path)
			want(t, fmt.Sprint("IsPath of ", n, b, l, path), is, e, true, api.OK)
			for i, p := range path {
				if !isIn(p, track[i]) || !isIn(p, smoothed[i]) {
					t.Fatalf("%v, %v, %v: %v, after %d steps of %v, is not in %v or not in %v", n, b, l, p, i, path, track[i], smoothed[i])
				}
			}
		}
	}
	if found < 1000 {
		t.Errorf("only %d paths were found", found)
	}
}

// TestOtherPaths tries positions at random, of which few are a path.
func TestOtherPaths(t *testing.T) {
	r := newRandom()
	paths, others := 0, 0
	for range 10000 {
		n, b, l := someTrack(r)
		path := []api.FixPlace{randomPlace(r, n.World)}
		wanted := isIn(path[0], b)
		for i, s := range l {
			path = append(path, randomPlace(r, n.World))
			wanted = wanted && leads(s.Move, path[i], path[i+1]) && len(wrongAt(n, s.Vote.Readings, path[i+1])) <= s.Vote.Wrong
		}
		is, e := fix.IsPath(n, b, l, path)
		want(t, fmt.Sprint("IsPath of ", n, b, l, path), is, e, wanted, api.OK)
		switch {
		case !wanted:
			others++
		case len(l) > 0:
			paths++
		}
	}
	if min(paths, others) < 100 {
		t.Errorf("%d are paths and %d are none: too few of one kind are tested", paths, others)
	}
}
