package dive_test

import (
	"fmt"
	"math"
	"math/rand/v2"
	"reflect"
	"slices"
	"strings"
	"testing"

	"moonpool/api"
	"moonpool/dive"
)

// R1, R2, R3, R4, R9

// arguments of every function, whose lists none of them may change.
type arguments struct {
	site         api.DiveSite
	state        api.DiveState
	task, failed int
	plan, set    []int
	price        api.Frac
	rota         api.DiveRota
	watches      []api.DiveWatch
	texts        [3]string
}

func exampleArguments() arguments {
	return arguments{
		site:    exampleSite(),
		state:   stateOf(0, 0, 300, 5, 1),
		failed:  2,
		plan:    []int{0},
		set:     []int{2, 0},
		price:   fracOf(5, 3),
		rota:    exampleRota(),
		watches: exampleWatches(),
		texts:   [3]string{tasksText, stateText, planText},
	}
}

// result is what a function, which takes these arguments in this order, returns.
type result struct {
	name, arguments string
	values          []any
	err             api.Errno
}

func (x result) takes(argument string) bool {
	return slices.Contains(strings.Fields(x.arguments), argument)
}

// wantError is whether a result is an error alone.
func (x result) wantError(t *testing.T, what string, err api.Errno) {
	t.Helper()
	if x.err != err || !x.isZero() {
		t.Errorf("%s: %s: %v, error %d, want the error %d", x.name, what, x.values, x.err, err)
	}
}

func (x result) isZero() bool {
	return !slices.ContainsFunc(x.values, func(v any) bool { return !reflect.ValueOf(v).IsZero() })
}

// resultsOf are those of all functions.
func resultsOf(a arguments) []result {
	var all []result
	of := func(name, arguments string) func(x any, e api.Errno) {
		return func(x any, e api.Errno) { all = append(all, result{name, arguments, []any{x}, e}) }
	}
	one := func(x any) (any, api.Errno) { return x, api.OK }
	of("CheckSite", "site")(pair(dive.CheckSite(a.site)))
	of("CheckState", "site state")(pair(dive.CheckState(a.site, a.state)))
	of("ReturnFrom", "site state")(pair(dive.ReturnFrom(a.site, a.state)))
	of("CanReturn", "site state")(pair(dive.CanReturn(a.site, a.state)))
	of("LastReturn", "site state lost")(pair(dive.LastReturn(a.site, a.state)))
	of("StepBy", "site state no-task done early late oil far")(pair(dive.StepBy(a.site, a.state, a.task)))
	of("StatesOf", "site state no-task done early late oil far")(pair(dive.StatesOf(a.site, a.state, a.plan)))
	of("CheckPlan", "site state no-task done early late oil far")(pair(dive.CheckPlan(a.site, a.state, a.plan)))
	of("ValueOf", "site no-task twice")(pair(dive.ValueOf(a.site, a.plan)))
	of("BoundBy", "site state lost form price")(pair(dive.BoundBy(a.site, a.state, a.price)))
	of("DependentsOf", "site no-task")(pair(dive.DependentsOf(a.site, a.task)))
	of("GoTogether", "site state no-set double-set done-set")(pair(dive.GoTogether(a.site, a.state, a.set)))
	of("ClashOf", "site state calm")(pair(dive.ClashOf(a.site, a.state)))
	of("WatchesFor", "rota many tired")(pair(dive.WatchesFor(a.rota)))
	of("CheckWatches", "rota watches pilot gap range long rest open")(pair(dive.CheckWatches(a.rota, a.watches)))
	of("FormatTasks", "")(one(dive.FormatTasks(a.site.Tasks)))
	of("ParseTasks", "")(pair(dive.ParseTasks(a.texts[0])))
	of("FormatState", "")(one(dive.FormatState(a.state)))
	of("ParseState", "")(pair(dive.ParseState(a.texts[1])))
	of("FormatPlan", "")(one(dive.FormatPlan(a.plan)))
	of("ParsePlan", "")(pair(dive.ParsePlan(a.texts[2])))
	plan, value, e := dive.BestPlan(a.site, a.state)
	all = append(all, result{"BestPlan", "site state lost", []any{plan, value}, e})
	plan, value, e = dive.Replanned(a.site, a.state, a.failed)
	all = append(all, result{"Replanned", "site state no-failed done-failed lost", []any{plan, value}, e})
	price, bound, e := dive.BestPrice(a.site, a.state)
	return append(all, result{"BestPrice", "site state lost", []any{price, bound}, e})
}

func pair[T any](x T, e api.Errno) (any, api.Errno) { return x, e }

// defect is a change to arguments that makes a function return an error.
type defect struct {
	apply func(a *arguments)
	err   api.Errno
}

// step makes another task the one of the step and of the plan.
func (a *arguments) step(task int) { a.task, a.plan = task, []int{task} }

// defects are those that the results name among their arguments.
func defects() map[string]defect {
	return map[string]defect{
		"site":        {func(a *arguments) { a.site.Tides[0].Slow = -1 }, api.ErrRange},
		"state":       {func(a *arguments) { a.state.Place = 3 }, api.ErrMissing},
		"lost":        {func(a *arguments) { a.state.Power, a.site.Idle = 79, 0 }, api.ErrRefused},
		"no-task":     {func(a *arguments) { a.step(3) }, api.ErrMissing},
		"done":        {func(a *arguments) { a.step(1) }, api.ErrDouble},
		"early":       {func(a *arguments) { a.step(2) }, api.ErrOrder},
		"late":        {func(a *arguments) { a.site.Tasks[0].Window.Hi = 9 }, api.ErrBreak},
		"oil":         {func(a *arguments) { a.state.Oil = 3 }, api.ErrZero},
		"far":         {func(a *arguments) { a.site.Home[1] = 10000 }, api.ErrRefused},
		"twice":       {func(a *arguments) { a.plan = append(a.plan, a.plan...) }, api.ErrDouble},
		"form":        {func(a *arguments) { a.price = fracOf(-2, 4) }, api.ErrForm},
		"price":       {func(a *arguments) { a.price = fracOf(-1, 2) }, api.ErrRange},
		"no-set":      {func(a *arguments) { a.set = []int{3, 3} }, api.ErrMissing},
		"double-set":  {func(a *arguments) { a.set = []int{1, 1} }, api.ErrDouble},
		"done-set":    {func(a *arguments) { a.set = []int{1} }, api.ErrDouble},
		"calm":        {func(a *arguments) { a.state.Oil = 6 }, api.ErrNone},
		"no-failed":   {func(a *arguments) { a.failed = -1 }, api.ErrMissing},
		"done-failed": {func(a *arguments) { a.failed = 1 }, api.ErrDouble},
		"rota":        {func(a *arguments) { a.rota.Pilots = 7 }, api.ErrRange},
		"many":        {func(a *arguments) { a.rota.Work = 2 }, api.ErrLarge},
		"tired":       {func(a *arguments) { a.rota.Rest = 41 }, api.ErrRefused},
		"watches":     {func(a *arguments) { a.watches = append(a.watches, make([]api.DiveWatch, 40)...) }, api.ErrLarge},
		"pilot":       {func(a *arguments) { a.watches[1].Pilot = 2 }, api.ErrMissing},
		"gap":         {func(a *arguments) { a.watches[1].Ticks.Lo = 41 }, api.ErrClash},
		"range":       {func(a *arguments) { a.watches[1].Ticks.Hi = 100 }, api.ErrRange},
		"long":        {func(a *arguments) { a.watches[1].Ticks.Hi = 80 }, api.ErrBreak},
		"rest":        {func(a *arguments) { a.watches[1].Pilot = 0 }, api.ErrRefused},
		"open":        {func(a *arguments) { a.watches = a.watches[:2] }, api.ErrOpen},
	}
}

// wantedError is the error of a defect, which is another one for the last return.
func wantedError(name, defect string) api.Errno {
	if name == "LastReturn" && defect == "lost" {
		return api.ErrNone
	}
	return defects()[defect].err
}

// TestErrorsInOrder is whether each error comes before all those that are listed after it.
func TestErrorsInOrder(t *testing.T) {
	all := defects()
	for i, x := range resultsOf(exampleArguments()) {
		names := strings.Fields(x.arguments)
		for k, name := range names {
			a := exampleArguments()
			for _, later := range slices.Backward(names[k:]) {
				all[later].apply(&a)
			}
			y := resultsOf(a)[i]
			if strings.HasPrefix(y.name, "Check") {
				y.values = nil
			}
			y.wantError(t, "with defects of "+strings.Join(names[k:], ", "), wantedError(x.name, name))
		}
	}
}

// clearAll overwrites a list, and what lies behind it.
func clearAll[T any](l []T) { clear(l[:cap(l)]) }

func clearTasks(l []api.DiveTask) {
	for _, t := range l {
		clearAll(t.After)
	}
	clearAll(l)
}

// clobber overwrites all lists of arguments.
func clobber(a arguments) {
	for _, row := range a.site.Travel {
		clearAll(row)
	}
	clearTasks(a.site.Tasks)
	clearAll(a.site.Travel)
	clearAll(a.site.Home)
	clearAll(a.site.Tides)
	clearAll(a.state.Done)
	clearAll(a.plan)
	clearAll(a.set)
	clearAll(a.watches)
}

func TestArgumentsAreKept(t *testing.T) {
	a := exampleArguments()
	first := resultsOf(a)
	if !reflect.DeepEqual(a, exampleArguments()) {
		t.Errorf("arguments were modified: %v", a)
	}
	again := resultsOf(a)
	clobber(a)
	if !reflect.DeepEqual(first, again) || !reflect.DeepEqual(first, resultsOf(exampleArguments())) {
		t.Errorf("results depend on something else than arguments: %v, %v", first, again)
	}
	for _, x := range first {
		if x.err != api.OK {
			t.Errorf("%s of the example: error %d", x.name, x.err)
		}
	}
}

// clearStates overwrites states one after the other, and finds memory that they share.
func clearStates(t *testing.T, l []api.DiveState) {
	for i, s := range l {
		before := fmt.Sprint(l[i+1:])
		clearAll(s.Done)
		if after := fmt.Sprint(l[i+1:]); after != before {
			t.Errorf("states share memory: %s, %s", before, after)
		}
	}
	clearAll(l)
}

func TestResultsShareNoMemory(t *testing.T) {
	a := exampleArguments()
	first, second := resultsOf(a), resultsOf(a)
	for _, x := range first {
		switch l := x.values[0].(type) {
		case []int:
			clearAll(l)
		case api.DiveState:
			clearAll(l.Done)
		case []api.DiveState:
			clearStates(t, l)
		case []api.DiveTask:
			clearTasks(l)
		case []api.DiveWatch:
			clearAll(l)
		}
	}
	if !reflect.DeepEqual(second, resultsOf(exampleArguments())) || !reflect.DeepEqual(a, exampleArguments()) {
		t.Errorf("results share memory: %v, %v", second, a)
	}
	l, e := dive.StatesOf(exampleSite(), a.state, nil)
	clearStates(t, l)
	want(t, "the state after StatesOf of nothing was overwritten", a.state, e, stateOf(0, 0, 300, 5, 1), api.OK)
	tasks, _ := dive.ParseTasks("a 0 0 0 0 0 0 0;b 0 0 0 0 0 0 0 0;c 0 0 0 0 0 0 0 0 1")
	clearAll(tasks[1].After)
	_ = append(tasks[0].After, 9)
	tasks[2].After[0] = 7
	want(t, "ParseTasks with some of its lists overwritten", dive.FormatTasks(tasks), api.OK, "a 0 0 0 0 0 0 0;b 0 0 0 0 0 0 0 0;c 0 0 0 0 0 0 0 7 1", api.OK)
}

func TestSpareCapacityIsKept(t *testing.T) {
	a := exampleArguments()
	spare := func(l []int) []int { return slices.Grow(slices.Clip(l), 9) }
	done, plan, set, home, after := spare(a.state.Done), spare(a.plan), spare(a.set), spare(a.site.Home), spare(a.site.Tasks[2].After)
	a.state.Done, a.plan, a.set, a.site.Home, a.site.Tasks[2].After = done, plan, set, home, after
	resultsOf(a)
	for _, l := range [][]int{done[1:9], plan[1:9], set[2:9], home[3:9], after[1:9]} {
		if slices.ContainsFunc(l, func(n int) bool { return n != 0 }) {
			t.Errorf("memory behind a list was changed: %v", l)
		}
	}
}

// odd is a number of any size, often one at a limit.
func odd(r *rand.Rand) int {
	some := []int{0, 0, 1, 1, -1, 2, 3, 4, 5, 6, 9, 20, 40, 9999, 10000, 10001, 99999, 100000, 100001, 100000000, 100000001, math.MaxInt, math.MinInt, math.MinInt + 1}
	return some[r.IntN(len(some))]
}

func oddList(r *rand.Rand) []int {
	l := make([]int, r.IntN(5))
	for i := range l {
		l[i] = odd(r)
	}
	return l
}

// oddArguments are any ones, valid or not.
func oddArguments(r *rand.Rand) arguments {
	a := arguments{
		site:  api.DiveSite{Home: oddList(r), Idle: odd(r), Swim: odd(r), Reserve: odd(r), End: odd(r)},
		state: stateOf(odd(r), odd(r), odd(r), odd(r), oddList(r)...),
		task:  odd(r), failed: odd(r), plan: oddList(r), set: oddList(r),
		price: fracOf(odd(r), odd(r)),
		rota:  rotaOf(spanOf(odd(r), odd(r)), odd(r), odd(r), odd(r)),
	}
	for range r.IntN(8) {
		n := [7]int{odd(r), odd(r), odd(r), odd(r), odd(r), odd(r), odd(r)}
		a.site.Tasks = append(a.site.Tasks, taskOf(string(rune('a'+r.IntN(26))), n, oddList(r)...))
		a.site.Travel = append(a.site.Travel, oddList(r))
		a.site.Tides = append(a.site.Tides, tideOf(odd(r), odd(r), odd(r)))
		a.watches = append(a.watches, watchOf(odd(r), odd(r), odd(r)))
	}
	return a
}

// greatArguments are valid ones of the greatest numbers.
func greatArguments(r *rand.Rand) (api.DiveSite, api.DiveState) {
	d := greatSite()
	if r.IntN(2) == 0 {
		d.Home, d.Tides = make([]int, 5), nil
	}
	for i := range d.Tasks {
		d.Tasks[i].Window.Lo = r.IntN(100001)
		d.Tasks[i].After = nil
	}
	return d, stateOf(r.IntN(5), r.IntN(100001)*r.IntN(2), 100000000, 10000)
}

// mixedArguments are odd ones, of which some are replaced by valid ones.
func mixedArguments(r *rand.Rand) arguments {
	a := oddArguments(r)
	d, s := randomSite(r, 6), exampleState()
	switch r.IntN(3) {
	case 0:
		d, s = greatArguments(r)
	case 1:
		d, s = returningDive(r, 6)
	default:
		s = randomState(r, d)
	}
	tasks := len(d.Tasks)
	for _, replace := range []func(){
		func() { a.site = d },
		func() { a.site, a.state = d, s },
		func() { a.task, a.failed = r.IntN(tasks+1), r.IntN(tasks+1) },
		func() { a.plan, a.set = r.Perm(tasks)[:r.IntN(tasks+1)], r.Perm(tasks)[:r.IntN(tasks+1)] },
		func() { a.price = fracOf(r.IntN(100), 1) },
		func() { a.rota = randomRota(r) },
		func() { a.watches, _ = dive.WatchesFor(a.rota) },
	} {
		if r.IntN(4) > 0 {
			replace()
		}
	}
	a.texts = [3]string{dive.FormatTasks(a.site.Tasks), dive.FormatState(a.state), dive.FormatPlan(a.plan)}
	return a
}

// TestEveryCallReturns calls everything with anything: beside an error stands no other result, but for an index.
func TestEveryCallReturns(t *testing.T) {
	r := newRandom()
	done := map[string]int{}
	for range 2000 {
		a := mixedArguments(r)
		for _, x := range resultsOf(a) {
			done[fmt.Sprint(x.name, " ", x.err == api.OK)]++
			if x.err != api.OK && !strings.HasPrefix(x.name, "Check") && !x.isZero() {
				t.Fatalf("%v: %s: %v beside the error %d", a, x.name, x.values, x.err)
			}
		}
	}
	for _, x := range resultsOf(exampleArguments()) {
		if done[x.name+" true"] < 100 || done[x.name+" false"] < 100 && !strings.HasPrefix(x.name, "Format") {
			t.Errorf("%s: %d calls and %d with errors: too few of one kind are tested", x.name, done[x.name+" true"], done[x.name+" false"])
		}
	}
}
