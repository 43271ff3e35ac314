package arm_test

import (
	"fmt"
	"math"
	"math/rand/v2"
	"reflect"
	"slices"
	"strings"
	"testing"

	"moonpool/api"
	"moonpool/arm"
)

// R1, R2, R3, R4, R9

// arguments of every function, whose lists none of them may change.
type arguments struct {
	scene      api.ArmScene
	pose, to   api.ArmPose
	cell       [2]int
	move       api.ArmMove
	path       []api.ArmMove
	reached    []api.ArmReached
	valve      api.ArmValve
	command    int
	commands   []int
	hold       api.ArmHold
	forces     [][2]int
	have, want []string
	texts      [2]string
}

func exampleArguments() arguments {
	return arguments{
		scene:    exampleScene(),
		pose:     poseOf(0, 0, 0),
		to:       poseOf(1, 0, 1),
		cell:     [2]int{3, 1},
		move:     moveOf(1, 1),
		path:     []api.ArmMove{moveOf(api.ArmSlide, 1), moveOf(1, 1)},
		reached:  exampleReached(),
		valve:    exampleValve(),
		command:  15,
		commands: []int{15, 15, 5},
		hold:     exampleHold(),
		forces:   [][2]int{{2, 1}, {2, -1}},
		have:     []string{"c", "a", "b"},
		want:     []string{"a", "b", "c"},
		texts:    [2]string{poseText, pathText},
	}
}

// result is what a function, which takes these arguments in this order, returns.
type result struct {
	name, arguments string
	values          []any
	err             api.Errno
}

func (x result) takes(argument string) bool {
	return slices.Contains(strings.Fields(x.arguments), argument)
}

// wantError is whether a result is an error alone.
func (x result) wantError(t *testing.T, what string, err api.Errno) {
	t.Helper()
	if x.err != err || !x.isZero() {
		t.Errorf("%s: %s: %v, error %d, want the error %d", x.name, what, x.values, x.err, err)
	}
}

func (x result) isZero() bool {
	return !slices.ContainsFunc(x.values, func(v any) bool { return !reflect.ValueOf(v).IsZero() })
}

// resultsOf are those of all functions.
func resultsOf(a arguments) []result {
	var all []result
	of := func(name, arguments string) func(x any, e api.Errno) {
		return func(x any, e api.Errno) { all = append(all, result{name, arguments, []any{x}, e}) }
	}
	one := func(x any) (any, api.Errno) { return x, api.OK }
	of("CheckScene", "scene")(pair(arm.CheckScene(a.scene)))
	of("CheckPose", "scene pose")(nothing{}, arm.CheckPose(a.scene, a.pose))
	of("JointsOf", "scene pose")(pair(arm.JointsOf(a.scene, a.pose)))
	of("CellsOf", "scene pose")(pair(arm.CellsOf(a.scene, a.pose)))
	of("IsFree", "scene pose")(pair(arm.IsFree(a.scene, a.pose)))
	of("Moved", "scene pose joint by break")(pair(arm.Moved(a.scene, a.pose, a.move)))
	of("SweepOf", "scene pose joint by break")(pair(arm.SweepOf(a.scene, a.pose, a.move)))
	of("MovesFrom", "scene pose busy")(pair(arm.MovesFrom(a.scene, a.pose)))
	p, n, e := arm.CheckPath(a.scene, a.pose, a.path)
	all = append(all, result{"CheckPath", "scene pose busy long path-joint path-by refused", []any{p, n}, e})
	of("PathTo", "scene pose to busy no-path")(pair(arm.PathTo(a.scene, a.pose, a.to)))
	of("PathToCell", "scene pose cell busy no-tip")(pair(arm.PathToCell(a.scene, a.pose, a.cell)))
	of("ReachedFrom", "scene pose busy")(pair(arm.ReachedFrom(a.scene, a.pose)))
	of("CheckReached", "scene pose busy order missing open")(pair(arm.CheckReached(a.scene, a.pose, a.reached)))
	of("SpeedIn", "valve command")(pair(arm.SpeedIn(a.valve, a.command)))
	of("TravelIn", "valve many commands")(pair(arm.TravelIn(a.valve, a.commands)))
	of("CheckHold", "hold forces slip balance")(pair(arm.CheckHold(a.hold, a.forces)))
	of("HoldOf", "hold no-hold")(pair(arm.HoldOf(a.hold)))
	of("SwapsFor", "large shape name double no-tool")(pair(arm.SwapsFor(a.have, a.want)))
	of("FormatPose", "")(one(arm.FormatPose(a.pose)))
	of("ParsePose", "")(pair(arm.ParsePose(a.texts[0])))
	of("FormatPath", "")(one(arm.FormatPath(a.path)))
	of("ParsePath", "")(pair(arm.ParsePath(a.texts[1])))
	return all
}

// nothing stands beside an error that is the only result.
type nothing struct{}

func pair[T any](x T, e api.Errno) (any, api.Errno) { return x, e }

// defect is a change to arguments that makes a function return an error.
type defect struct {
	apply func(a *arguments)
	err   api.Errno
}

// defects are those that the results name among their arguments.
func defects() map[string]defect {
	bad := api.ArmReached{Pose: poseOf(0, 0, -1)}
	return map[string]defect{
		"scene":      {func(a *arguments) { a.scene.Boxes = append(a.scene.Boxes, boxOf(1, 0, 0, 0)) }, api.ErrOrder},
		"pose":       {func(a *arguments) { a.pose = poseOf(0, 0, 2) }, api.ErrRange},
		"to":         {func(a *arguments) { a.to = poseOf(0) }, api.ErrShape},
		"cell":       {func(a *arguments) { a.cell[1] = 21 }, api.ErrRange},
		"joint":      {func(a *arguments) { a.move.Joint = 2 }, api.ErrMissing},
		"by":         {func(a *arguments) { a.move.By = 0 }, api.ErrRange},
		"break":      {func(a *arguments) { a.pose, a.move = poseOf(0, 0, 0), moveOf(0, -1) }, api.ErrBreak},
		"busy":       {func(a *arguments) { a.scene = busyScene() }, api.ErrBusy},
		"long":       {func(a *arguments) { a.path = append(a.path, make([]api.ArmMove, 60)...) }, api.ErrLarge},
		"path-joint": {func(a *arguments) { a.path[1].Joint = 2 }, api.ErrMissing},
		"path-by":    {func(a *arguments) { a.path[1].By = 2 }, api.ErrRange},
		"refused":    {func(a *arguments) { a.path[1].Joint = 0 }, api.ErrRefused},
		"no-path":    {func(a *arguments) { a.to = poseOf(0, 1, 0) }, api.ErrNone},
		"no-tip":     {func(a *arguments) { a.cell = [2]int{0, 3} }, api.ErrNone},
		"order":      {func(a *arguments) { a.reached = append(a.reached, bad) }, api.ErrOrder},
		"missing":    {func(a *arguments) { a.reached = withoutBeginning(a.reached) }, api.ErrMissing},
		"open":       {func(a *arguments) { a.reached = without(a.reached, 0) }, api.ErrOpen},
		"valve":      {func(a *arguments) { a.valve.Gain = -1 }, api.ErrRange},
		"command":    {func(a *arguments) { a.command = 101 }, api.ErrRange},
		"many":       {func(a *arguments) { a.commands = append(a.commands, make([]int, 28)...) }, api.ErrLarge},
		"commands":   {func(a *arguments) { a.commands[1] = -101 }, api.ErrRange},
		"hold":       {func(a *arguments) { a.hold.Friction = fracOf(2, 4) }, api.ErrForm},
		"forces":     {func(a *arguments) { a.forces = a.forces[:1] }, api.ErrShape},
		"slip":       {func(a *arguments) { a.forces[0][1] = 2 }, api.ErrBreak},
		"balance":    {func(a *arguments) { a.forces[0][0] = 3 }, api.ErrProof},
		"no-hold":    {func(a *arguments) { a.hold.Load[2] = 5 }, api.ErrNone},
		"large":      {func(a *arguments) { a.want = append(a.want, make([]string, 6)...) }, api.ErrLarge},
		"shape":      {func(a *arguments) { a.want = append(a.want, "") }, api.ErrShape},
		"name":       {func(a *arguments) { a.have[0] = "" }, api.ErrName},
		"double":     {func(a *arguments) { a.want[1] = a.want[0] }, api.ErrDouble},
		"no-tool":    {func(a *arguments) { a.want[0] = "d" }, api.ErrMissing},
	}
}

// TestErrorsInOrder is whether each error comes before all those that are listed after it.
func TestErrorsInOrder(t *testing.T) {
	all := defects()
	for i, x := range resultsOf(exampleArguments()) {
		names := strings.Fields(x.arguments)
		for k, name := range names {
			a := exampleArguments()
			for _, later := range slices.Backward(names[k:]) {
				all[later].apply(&a)
			}
			y := resultsOf(a)[i]
			if strings.HasPrefix(y.name, "Check") {
				y.values = nil
			}
			y.wantError(t, "with defects of "+strings.Join(names[k:], ", "), all[name].err)
		}
	}
}

// clobber overwrites all lists of arguments.
func clobber(a arguments) {
	for _, x := range a.reached {
		clear(x.Pose.Quarters)
	}
	clear(a.scene.Links)
	clear(a.scene.Boxes)
	clear(a.pose.Quarters)
	clear(a.to.Quarters)
	clear(a.path)
	clear(a.reached)
	clear(a.commands)
	clear(a.hold.Contacts)
	clear(a.forces)
	clear(a.have)
	clear(a.want)
}

func TestArgumentsAreKept(t *testing.T) {
	a := exampleArguments()
	first := resultsOf(a)
	if !reflect.DeepEqual(a, exampleArguments()) {
		t.Errorf("arguments were modified: %v", a)
	}
	again := resultsOf(a)
	clobber(a)
	if !reflect.DeepEqual(first, again) || !reflect.DeepEqual(first, resultsOf(exampleArguments())) {
		t.Errorf("results depend on something else than arguments: %v, %v", first, again)
	}
	for _, x := range first {
		if x.err != api.OK {
			t.Errorf("%s of the example: error %d", x.name, x.err)
		}
	}
}

func TestResultsShareNoMemory(t *testing.T) {
	a := exampleArguments()
	first, second := resultsOf(a), resultsOf(a)
	for _, x := range first {
		switch l := x.values[0].(type) {
		case [][2]int:
			clear(l)
		case []api.ArmMove:
			clear(l)
		case api.ArmPose:
			clear(l.Quarters)
			l.Quarters = append(l.Quarters, 9)
		case []api.ArmReached:
			for i := range l {
				l[i].Pose.Quarters = append(l[i].Pose.Quarters, 9)
				clear(l[i].Pose.Quarters)
			}
		}
	}
	if !reflect.DeepEqual(second, resultsOf(exampleArguments())) || !reflect.DeepEqual(a, exampleArguments()) {
		t.Errorf("results share memory: %v, %v", second, a)
	}
	l, _ := arm.ReachedFrom(exampleScene(), poseOf(0, 0, 0))
	for i := range l {
		clear(append(l[i].Pose.Quarters, 9, 9, 9)[:2])
		want(t, "ReachedFrom with other poses overwritten", l[i+1:], api.OK, exampleReached()[i+1:], api.OK)
	}
}

func TestSpareCapacityIsKept(t *testing.T) {
	a := exampleArguments()
	boxes, links := slices.Grow(slices.Clip(a.scene.Boxes), 9), slices.Grow(slices.Clip(a.scene.Links), 9)
	quarters, path := slices.Grow(slices.Clip(a.pose.Quarters), 9), slices.Grow(slices.Clip(a.path), 9)
	have, forces := slices.Grow(slices.Clip(a.have), 9), slices.Grow(slices.Clip(a.forces), 9)
	a.scene.Boxes, a.scene.Links, a.pose.Quarters, a.path, a.have, a.forces = boxes, links, quarters, path, have, forces
	resultsOf(a)
	for _, l := range []any{boxes[1:9], links[2:9], quarters[2:9], path[2:9], have[3:9], forces[2:9]} {
		for i := range reflect.ValueOf(l).Len() {
			if x := reflect.ValueOf(l).Index(i); !x.IsZero() {
				t.Errorf("memory behind a list was changed: %v", x)
			}
		}
	}
}

// odd is a number of any size, often one at a limit.
func odd(r *rand.Rand) int {
	some := []int{0, 0, 1, 1, -1, 2, -2, 3, 4, 5, 6, 7, 8, 10, 11, 20, 21, -20, -21, 60, 61, 100, 101, 1000, 1001, math.MaxInt, math.MinInt, math.MinInt + 1}
	return some[r.IntN(len(some))]
}

func oddSpan(r *rand.Rand) api.Range { return spanOf(odd(r), odd(r)) }

func oddBox(r *rand.Rand) api.ArmBox { return api.ArmBox{X: oddSpan(r), Y: oddSpan(r)} }

func oddCell(r *rand.Rand) [2]int { return [2]int{odd(r), odd(r)} }

func oddPose(r *rand.Rand) api.ArmPose {
	p := poseOf(odd(r))
	for range r.IntN(5) {
		p.Quarters = append(p.Quarters, odd(r))
	}
	return p
}

// oddArguments are any ones, valid or not.
func oddArguments(r *rand.Rand) arguments {
	a := arguments{
		scene:   api.ArmScene{Base: oddCell(r), Slide: odd(r), Field: oddBox(r)},
		pose:    oddPose(r),
		to:      oddPose(r),
		cell:    oddCell(r),
		move:    moveOf(odd(r), odd(r)),
		valve:   api.ArmValve{Dead: odd(r), Gain: odd(r), Leak: odd(r)},
		command: odd(r),
		hold:    holdOf(fracOf(odd(r), odd(r)), odd(r), odd(r), odd(r)),
	}
	for range r.IntN(9) {
		a.scene.Links = append(a.scene.Links, api.ArmLink{Length: odd(r), Quarters: oddSpan(r)})
		a.scene.Boxes = append(a.scene.Boxes, oddBox(r))
		a.path = append(a.path, moveOf(odd(r), odd(r)))
		a.reached = append(a.reached, api.ArmReached{Pose: oddPose(r), Moves: odd(r)})
		a.commands = append(a.commands, odd(r))
		a.hold.Contacts = append(a.hold.Contacts, api.ArmContact{Place: oddCell(r), Normal: oddCell(r), Most: odd(r)})
		a.forces = append(a.forces, oddCell(r))
		a.have = append(a.have, string(rune('a'+r.IntN(26))))
		a.want = append(a.want, string(rune('a'+r.IntN(26))))
	}
	return a
}

// mixedArguments are odd ones, of which some are replaced by valid ones.
func mixedArguments(r *rand.Rand) arguments {
	a := oddArguments(r)
	s := randomScene(r)
	if r.IntN(5) > 0 {
		a.scene = s
	}
	for _, replace := range []func(){
		func() { a.pose = randomPose(r, s) },
		func() { a.to = randomPose(r, s) },
		func() { a.cell = randomTip(r, s) },
		func() { a.move = allMoves(s)[r.IntN(4)] },
		func() { a.path = allMoves(s)[:r.IntN(2)] },
		func() { a.reached, _ = arm.ReachedFrom(s, a.pose) },
		func() { a.valve, a.command = randomValve(r), between(r, -100, 100) },
		func() { a.commands = a.commands[:min(len(a.commands), 1)] },
		func() { a.hold = randomHold(r) },
		func() { a.forces, _ = arm.HoldOf(a.hold) },
		func() { a.have = shuffled(r, []string{"a", "b", "c"}); a.want = shuffled(r, a.have) },
	} {
		if r.IntN(4) > 0 {
			replace()
		}
	}
	a.texts = [2]string{arm.FormatPose(a.pose), arm.FormatPath(a.path)}
	return a
}

// TestEveryCallReturns calls everything with anything: beside an error stands no other result, but for an index.
func TestEveryCallReturns(t *testing.T) {
	r := newRandom()
	done := map[string]int{}
	for range 2000 {
		a := mixedArguments(r)
		for _, x := range resultsOf(a) {
			done[fmt.Sprint(x.name, " ", x.err == api.OK)]++
			if x.err != api.OK && !strings.HasPrefix(x.name, "Check") && !x.isZero() {
				t.Fatalf("%v: %s: %v beside the error %d", a, x.name, x.values, x.err)
			}
			if p, ok := x.values[0].(api.ArmPose); ok && x.err != api.OK && !reflect.ValueOf(p).IsZero() {
				t.Fatalf("%v: %s: the pose %v beside the error %d", a, x.name, p, x.err)
			}
		}
	}
	for _, x := range resultsOf(exampleArguments()) {
		if done[x.name+" true"] < 100 || done[x.name+" false"] < 100 && !strings.HasPrefix(x.name, "Format") {
			t.Errorf("%s: %d calls and %d with errors: too few of one kind are tested", x.name, done[x.name+" true"], done[x.name+" false"])
		}
	}
}
