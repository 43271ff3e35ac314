package fix_test

import (
	"fmt"
	"math"
	"math/rand/v2"
	"reflect"
	"slices"
	"strings"
	"testing"

	"moonpool/api"
	"moonpool/fix"
)

// R1, R2, R3, R4, R9

// arguments of every function, whose lists none of them may change.
type arguments struct {
	net               api.FixNet
	box               api.FixBox
	move              api.FixMove
	pressure, density api.Range
	beacon            int
	readings          []api.FixReading
	place             api.FixPlace
	vote              api.FixVote
	steps             []api.FixStep
	path              []api.FixPlace
	texts             [2]string
}

func exampleArguments() arguments {
	return arguments{
		net:      exampleNet(),
		box:      boxOf(0, 6, 0, 0, 0, 4),
		move:     exampleMove(),
		pressure: spanOf(10, 11),
		density:  spanOf(1000, 1100),
		beacon:   1,
		readings: exampleReadings()[:2],
		place:    placeOf(5, 0, 0),
		vote:     voteOf(1, exampleReadings()...),
		steps:    []api.FixStep{{Move: moveOf(1, 0, 2, 0, 0, 0, 0)}, {Move: exampleMove(), Vote: voteOf(0, axisOf(0, 4, 9))}},
		path:     []api.FixPlace{placeOf(0, 0, 3), placeOf(2, 0, 3), placeOf(4, 1, 2)},
		texts:    [2]string{boxText, stepText},
	}
}

// result is what a function, which takes these arguments in this order, returns.
type result struct {
	name, arguments string
	values          []any
	err             api.Errno
}

func (x result) takes(argument string) bool {
	return slices.Contains(strings.Fields(x.arguments), argument)
}

// wantError is whether a result is an error alone.
func (x result) wantError(t *testing.T, what string, err api.Errno) {
	t.Helper()
	if x.err != err || !x.isZero() {
		t.Errorf("%s: %s: %v, error %d, want the error %d", x.name, what, x.values, x.err, err)
	}
}

func (x result) isZero() bool {
	return !slices.ContainsFunc(x.values, func(v any) bool { return !reflect.ValueOf(v).IsZero() })
}

// resultsOf are those of all functions.
func resultsOf(a arguments) []result {
	var all []result
	of := func(name, arguments string) func(x any, e api.Errno) {
		return func(x any, e api.Errno) { all = append(all, result{name, arguments, []any{x}, e}) }
	}
	ofTwo := func(name, arguments string) func(x, y any, e api.Errno) {
		return func(x, y any, e api.Errno) { all = append(all, result{name, arguments, []any{x, y}, e}) }
	}
	step := api.FixStep{Move: a.move, Vote: a.vote}
	one := func(x any) (any, api.Errno) { return x, api.OK }
	of("CheckNet", "net")(pair(fix.CheckNet(a.net)))
	of("CheckBox", "net box")(nothing{}, fix.CheckBox(a.net, a.box))
	of("Carried", "net box move gone")(pair(fix.Carried(a.net, a.box, a.move)))
	of("CarriedBack", "net box move gone")(pair(fix.CarriedBack(a.net, a.box, a.move)))
	of("DepthIn", "")(pair(fix.DepthIn(a.pressure, a.density)))
	of("SquaresIn", "net beacon box")(pair(fix.SquaresIn(a.net, a.beacon, a.box)))
	of("CheckReadings", "net readings")(pair(fix.CheckReadings(a.net, a.readings)))
	of("AgreeingWith", "net readings place")(pair(fix.AgreeingWith(a.net, a.readings, a.place)))
	ofTwo("FixIn", "net box readings large none")(three(fix.FixIn(a.net, a.box, a.readings)))
	ofTwo("VotedIn", "net box votes wrong large no-vote")(three(fix.VotedIn(a.net, a.box, a.vote)))
	ofTwo("WrongOf", "net box readings large")(three(fix.WrongOf(a.net, a.box, a.readings)))
	of("AnswersOf", "net box readings")(pair(fix.AnswersOf(a.net, a.box, a.readings)))
	of("CheckSteps", "net steps")(pair(fix.CheckSteps(a.net, a.steps)))
	of("After", "net box move votes wrong gone large no-vote")(pair(fix.After(a.net, a.box, step)))
	of("TrackOf", "net box steps large off")(pair(fix.TrackOf(a.net, a.box, a.steps)))
	of("SmoothedOf", "net box steps large off")(pair(fix.SmoothedOf(a.net, a.box, a.steps)))
	of("IsPath", "net box steps path")(pair(fix.IsPath(a.net, a.box, a.steps, a.path)))
	of("FormatBox", "")(one(fix.FormatBox(a.box)))
	of("ParseBox", "")(pair(fix.ParseBox(a.texts[0])))
	of("FormatStep", "")(one(fix.FormatStep(step)))
	of("ParseStep", "")(pair(fix.ParseStep(a.texts[1])))
	return all
}

// nothing stands beside an error that is the only result.
type nothing struct{}

func pair[T any](x T, e api.Errno) (any, api.Errno) { return x, e }

func three[T, U any](x T, y U, e api.Errno) (any, any, api.Errno) { return x, y, e }

// defect is a change to arguments that makes a function return an error.
type defect struct {
	apply func(a *arguments)
	err   api.Errno
}

// defects are those that the results name among their arguments.
func defects() map[string]defect {
	return map[string]defect{
		"net":      {func(a *arguments) { a.net.Beacons = append(a.net.Beacons, api.FixBeacon{}) }, api.ErrName},
		"box":      {func(a *arguments) { a.box.X = spanOf(1, 0) }, api.ErrOrder},
		"beacon":   {func(a *arguments) { a.beacon = 2 }, api.ErrMissing},
		"move":     {func(a *arguments) { a.move.Ticks = -1 }, api.ErrRange},
		"readings": {func(a *arguments) { a.readings[1].Kind = 2 }, api.ErrKind},
		"place":    {func(a *arguments) { a.place.Z = 21 }, api.ErrRange},
		"votes":    {func(a *arguments) { a.vote.Readings[1].Kind = -1 }, api.ErrKind},
		"wrong":    {func(a *arguments) { a.vote.Wrong = 4 }, api.ErrRange},
		"steps":    {func(a *arguments) { a.steps[1].Vote.Readings[0].Index = 3 }, api.ErrMissing},
		"path":     {func(a *arguments) { a.path = a.path[:2] }, api.ErrShape},
		"gone":     {func(a *arguments) { a.move = moveOf(1000, 100, 100, 0, 0, 0, 0) }, api.ErrNone},
		"large":    {func(a *arguments) { a.net.World, a.box = greatNet().World, greatNet().World }, api.ErrLarge},
		"none":     {func(a *arguments) { a.readings = exampleReadings() }, api.ErrNone},
		"no-vote":  {func(a *arguments) { a.vote.Wrong = 0 }, api.ErrNone},
		"off":      {func(a *arguments) { a.steps[1].Vote.Readings[0] = axisOf(2, 5, 9) }, api.ErrNone},
	}
}

// TestErrorsInOrder is whether each error comes before all those that are listed after it.
func TestErrorsInOrder(t *testing.T) {
	all := defects()
	for i, x := range resultsOf(exampleArguments()) {
		names := strings.Fields(x.arguments)
		for k, name := range names {
			a := exampleArguments()
			for _, later := range slices.Backward(names[k:]) {
				all[later].apply(&a)
			}
			y := resultsOf(a)[i]
			if strings.HasPrefix(y.name, "Check") {
				y.values = nil
			}
			y.wantError(t, "with defects of "+strings.Join(names[k:], ", "), all[name].err)
		}
	}
}

// clobber overwrites all lists of arguments.
func clobber(a arguments) {
	clear(a.net.Beacons)
	clear(a.readings)
	clear(a.vote.Readings)
	for _, s := range a.steps {
		clear(s.Vote.Readings)
	}
	clear(a.steps)
	clear(a.path)
}

func TestArgumentsAreKept(t *testing.T) {
	a := exampleArguments()
	first := resultsOf(a)
	if !reflect.DeepEqual(a, exampleArguments()) {
		t.Errorf("arguments were modified: %v", a)
	}
	again := resultsOf(a)
	clobber(a)
	if !reflect.DeepEqual(first, again) || !reflect.DeepEqual(first, resultsOf(exampleArguments())) {
		t.Errorf("results depend on something else than arguments: %v, %v", first, again)
	}
	for _, x := range first {
		if x.err != api.OK {
			t.Errorf("%s of the example: error %d", x.name, x.err)
		}
	}
}

func TestResultsShareNoMemory(t *testing.T) {
	first, second := resultsOf(exampleArguments()), resultsOf(exampleArguments())
	for _, x := range first {
		switch l := x.values[0].(type) {
		case []int:
			clear(l)
		case []api.FixBox:
			clear(l)
		case api.FixStep:
			clear(l.Vote.Readings)
		}
	}
	if !reflect.DeepEqual(second, resultsOf(exampleArguments())) {
		t.Errorf("results share memory: %v", second)
	}
}

func TestSpareCapacityIsKept(t *testing.T) {
	a := exampleArguments()
	readings, steps := slices.Grow(slices.Clip(a.readings), 9), slices.Grow(a.steps, 9)
	beacons, path := slices.Grow(a.net.Beacons, 9), slices.Grow(a.path, 9)
	a.readings, a.steps, a.net.Beacons, a.path = readings, steps, beacons, path
	resultsOf(a)
	for _, l := range []any{readings[2:9], steps[2:9], beacons[2:9], path[3:9]} {
		for i := range reflect.ValueOf(l).Len() {
			if x := reflect.ValueOf(l).Index(i); !x.IsZero() {
				t.Errorf("memory behind a list was changed: %v", x)
			}
		}
	}
}

// odd is a number of any size, often one at a limit.
func odd(r *rand.Rand) int {
	some := []int{0, 1, -1, 2, 3, 6, 8, 10, 20, 100, 101, -100, 1000, 1001, 2000, 2001, 10000, 10001, -10000, 30000, 30001, 1000000, math.MaxInt, math.MinInt, math.MinInt + 1}
	return some[r.IntN(len(some))]
}

func oddSpan(r *rand.Rand) api.Range { return spanOf(odd(r), odd(r)) }

func oddBox(r *rand.Rand) api.FixBox {
	return api.FixBox{X: oddSpan(r), Y: oddSpan(r), Z: oddSpan(r)}
}

func oddPlace(r *rand.Rand) api.FixPlace { return placeOf(odd(r), odd(r), odd(r)) }

func oddReadings(r *rand.Rand) []api.FixReading {
	l := make([]api.FixReading, r.IntN(10))
	for i := range l {
		l[i] = api.FixReading{Kind: r.IntN(4) - 1, Index: odd(r), Value: oddSpan(r)}
	}
	return l
}

// oddArguments are any ones, valid or not.
func oddArguments(r *rand.Rand) arguments {
	a := arguments{
		net:      api.FixNet{World: oddBox(r)},
		box:      oddBox(r),
		move:     api.FixMove{Ticks: odd(r), Speed: oddBox(r)},
		pressure: oddSpan(r),
		density:  oddSpan(r),
		beacon:   odd(r),
		readings: oddReadings(r),
		place:    oddPlace(r),
		vote:     voteOf(odd(r), oddReadings(r)...),
	}
	for range r.IntN(8) {
		a.net.Beacons = append(a.net.Beacons, api.FixBeacon{Name: string(rune('a' + r.IntN(26))), Place: oddPlace(r)})
		a.steps = append(a.steps, api.FixStep{Move: a.move, Vote: a.vote})
		a.path = append(a.path, oddPlace(r))
	}
	return a
}

// mixedArguments are odd ones, of which some are replaced by valid ones.
func mixedArguments(r *rand.Rand) arguments {
	a := oddArguments(r)
	if r.IntN(4) > 0 {
		a.net = randomNet(r, 5)
	}
	n := randomNet(r, 5)
	if i, e := fix.CheckNet(a.net); i == 0 && e == api.OK {
		n = a.net
	}
	b := randomBox(r, n.World)
	for _, replace := range []func(){
		func() { a.box = b },
		func() { a.move = randomMove(r) },
		func() { a.beacon, a.place = r.IntN(4), randomPlace(r, n.World) },
		func() { a.readings = randomReadings(r, n, randomPlace(r, b), 8) },
		func() { a.vote = voteOf(r.IntN(3), randomReadings(r, n, randomPlace(r, b), 8)...) },
		func() { a.steps = randomSteps(r, n, b, r.IntN(4)) },
		func() { a.path = a.path[:min(len(a.path), len(a.steps)+1)] },
	} {
		if r.IntN(4) > 0 {
			replace()
		}
	}
	a.texts = [2]string{fix.FormatBox(a.box), fix.FormatStep(api.FixStep{Move: a.move, Vote: a.vote})}
	return a
}

// TestEveryCallReturns calls everything with anything: beside an error stands no other result, but for an index.
func TestEveryCallReturns(t *testing.T) {
	r := newRandom()
	done := map[string]int{}
	for range 3000 {
		a := mixedArguments(r)
		for _, x := range resultsOf(a) {
			done[fmt.Sprint(x.name, " ", x.err == api.OK)]++
			if x.err != api.OK && !strings.HasPrefix(x.name, "Check") && !x.isZero() {
				t.Fatalf("%v: %s: %v beside the error %d", a, x.name, x.values, x.err)
			}
		}
	}
	for _, x := range resultsOf(exampleArguments()) {
		if done[x.name+" true"] < 100 || done[x.name+" false"] < 100 && !strings.HasPrefix(x.name, "Format") {
			t.Errorf("%s: %d calls and %d with errors: too few of one kind are tested", x.name, done[x.name+" true"], done[x.name+" false"])
		}
	}
}
