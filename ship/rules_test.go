package ship_test

import (
	"fmt"
	"math"
	"math/rand/v2"
	"reflect"
	"slices"
	"strings"
	"testing"

	"moonpool/api"
	"moonpool/ship"
)

// R1, R2, R3, R4, R9

// arguments of every function, whose lists none of them may change.
type arguments struct {
	net      api.ShipNet
	logs     [2][]api.ShipEntry
	entry    api.ShipEntry
	tick     int
	dive     int
	look     api.ShipLook
	tag      string
	text     string
	after    int
	journal  string
	question string
}

func exampleArguments() arguments {
	return arguments{
		net:      greatNet(),
		logs:     [2][]api.ShipEntry{greatLog(), logOf("1 kim permit 0 1", "9 sam note x")},
		entry:    entryOf(9, "pia", "home"),
		tick:     9,
		dive:     1,
		look:     lookOf(1, 9),
		tag:      "t",
		text:     "ab",
		journal:  exampleJournal,
		question: "dive 1",
	}
}

// greatLog has everything, at last an open dive.
func greatLog() []api.ShipEntry {
	return logOf("1 kim permit 0 1", "1 pia sign 1", "2 pim sign 1", "3 pia begin 1", "4 pia move 1 0 1 0 0 0 0/0;range 0 1 3",
		"5 pia task 0", "6 pim fault dvl", "7 sam sample s 100 cold", "8 sam split s 30 t", "9 sam transfer s pia")
}

// result is what a function, which takes these arguments in this order, returns.
type result struct {
	name, arguments string
	values          []any
	err             api.Errno
}

func (x result) takes(argument string) bool {
	return slices.Contains(strings.Fields(x.arguments), argument)
}

// wantError is whether a result is an error alone.
func (x result) wantError(t *testing.T, what string, err api.Errno) {
	t.Helper()
	if x.err != err || !x.isZero() {
		t.Errorf("%s: %s: %v, error %d, want the error %d", x.name, what, x.values, x.err, err)
	}
}

func (x result) isZero() bool {
	return !slices.ContainsFunc(x.values, func(v any) bool { return !reflect.ValueOf(v).IsZero() })
}

// hasIndex is whether a function returns an index beside an error.
func (x result) hasIndex() bool { return strings.HasPrefix(x.name, "Check") }

// resultsOf are those of all functions.
func resultsOf(a arguments) []result {
	const (
		aNet = "no-people people name twice role fix start bus works site begin "
		aLog = aNet + "long by at order text byte word allowed form effect "
	)
	var all []result
	of := func(name, arguments string) func(x any, e api.Errno) {
		return func(x any, e api.Errno) { all = append(all, result{name, arguments, []any{x}, e}) }
	}
	l := a.logs[0]
	of("CheckNet", aNet)(pair(ship.CheckNet(a.net)))
	of("CheckLog", aLog)(pair(ship.CheckLog(a.net, l)))
	of("Appended", aLog+"full entry-by entry-at entry-effect")(pair(ship.Appended(a.net, l, a.entry)))
	of("StateOf", aLog)(pair(ship.StateOf(a.net, l)))
	of("StateAt", aLog+"tick")(pair(ship.StateAt(a.net, l, a.tick)))
	of("DiveOf", aLog+"dive")(pair(ship.DiveOf(a.net, l, a.dive)))
	of("BoxAt", aLog+"look-at look-dive")(pair(ship.BoxAt(a.net, l, a.look)))
	of("ReturnOf", aLog+"dive")(pair(ship.ReturnOf(a.net, l, a.dive)))
	of("ModeOf", aLog+"no-mode")(pair(ship.ModeOf(a.net, l)))
	of("ChainOf", aLog+"tag")(pair(ship.ChainOf(a.net, l, a.tag)))
	of("AmountsOf", aLog+"tag")(pair(ship.AmountsOf(a.net, l, a.tag)))
	of("ReportOf", aLog)(pair(ship.ReportOf(a.net, l)))
	of("SumOf", "after")(pair(ship.SumOf(a.text, a.after)))
	of("Journal", aLog)(pair(ship.Journal(a.net, l)))
	of("Answer", aLog+"question missing")(pair(ship.Answer(a.net, l, a.question)))
	recovered, size, e := ship.Recovered(a.net, a.journal)
	all = append(all, result{"Recovered", aNet + "journal", []any{recovered, size}, e})
	merged, refused, e := ship.Merged(a.net, l, a.logs[1])
	return append(all, result{"Merged", aLog + "second-long second-by second-effect", []any{merged, refused}, e})
}

func pair[T any](x T, e api.Errno) (any, api.Errno) { return x, e }

// defect is a change to arguments that makes a function return an error.
type defect struct {
	apply func(a *arguments)
	err   api.Errno
}

// netDefects are those of nets, in the order of their errors.
func netDefects() map[string]defect {
	return map[string]defect{
		"no-people": {func(a *arguments) { a.net.People = nil }, api.ErrShape},
		"people":    {func(a *arguments) { a.net.People = append(a.net.People, a.net.People...) }, api.ErrLarge},
		"name":      {func(a *arguments) { a.net.People[1].Name = "" }, api.ErrName},
		"twice":     {func(a *arguments) { a.net.People[1].Name = a.net.People[0].Name }, api.ErrExists},
		"role":      {func(a *arguments) { a.net.People[1].Role = 4 }, api.ErrKind},
		"fix":       {func(a *arguments) { a.net.Fix.Beacons[0].Name = "1" }, api.ErrName},
		"start":     {func(a *arguments) { a.net.Start.X.Lo = 2 }, api.ErrOrder},
		"bus":       {func(a *arguments) { a.net.Bus.Modes[1].Name = "full" }, api.ErrExists},
		"works":     {func(a *arguments) { a.net.Works = -1 }, api.ErrRange},
		"site":      {func(a *arguments) { a.net.Site.Travel = nil }, api.ErrShape},
		"begin":     {func(a *arguments) { a.net.Begin.Place = 3 }, api.ErrMissing},
	}
}

// changeFifth changes the fifth entry of the first log.
func changeFifth(change func(e *api.ShipEntry), err api.Errno) defect {
	return defect{func(a *arguments) { change(&a.logs[0][4]) }, err}
}

// logDefects are those of logs, and of what follows from them.
func logDefects() map[string]defect {
	return map[string]defect{
		"long":     {func(a *arguments) { a.logs[0] = append(a.logs[0], make([]api.ShipEntry, 60)...) }, api.ErrLarge},
		"by":       changeFifth(func(e *api.ShipEntry) { e.By = "zoe" }, api.ErrMissing),
		"at":       changeFifth(func(e *api.ShipEntry) { e.At = math.MinInt }, api.ErrRange),
		"order":    changeFifth(func(e *api.ShipEntry) { e.At = 2 }, api.ErrOrder),
		"text":     changeFifth(func(e *api.ShipEntry) { e.Text += strings.Repeat("x", 400) }, api.ErrLarge),
		"byte":     changeFifth(func(e *api.ShipEntry) { e.Text += "\n" }, api.ErrForm),
		"word":     changeFifth(func(e *api.ShipEntry) { e.Text = "x" + e.Text }, api.ErrSyntax),
		"allowed":  changeFifth(func(e *api.ShipEntry) { e.By = "gus" }, api.ErrAllowed),
		"form":     changeFifth(func(e *api.ShipEntry) { e.Text += " " }, api.ErrSyntax),
		"effect":   changeFifth(func(e *api.ShipEntry) { e.Text = "task 2" }, api.ErrClash),
		"tick":     {func(a *arguments) { a.tick = 1000000000001 }, api.ErrRange},
		"dive":     {func(a *arguments) { a.dive = 2 }, api.ErrMissing},
		"no-mode":  {func(a *arguments) { a.logs[0] = more(a.logs[0][:7], "7 pia fault main", "7 pia fault spare") }, api.ErrNone},
		"tag":      {func(a *arguments) { a.tag = "u" }, api.ErrMissing},
		"question": {func(a *arguments) { a.question += " " }, api.ErrSyntax},
		"missing":  {func(a *arguments) { a.question = "dive 2" }, api.ErrMissing},
	}
}

// otherDefects are those of all other arguments.
func otherDefects() map[string]defect {
	return map[string]defect{
		"full": {func(a *arguments) {
			a.logs[0] = append(a.logs[0], slices.Repeat(logOf("9 gus note "), 60-len(a.logs[0]))...)
		}, api.ErrLarge},
		"entry-by":      {func(a *arguments) { a.entry.By = "zoe" }, api.ErrMissing},
		"entry-at":      {func(a *arguments) { a.entry.At = 8 }, api.ErrOrder},
		"entry-effect":  {func(a *arguments) { a.entry.By = "tom" }, api.ErrState},
		"look-at":       {func(a *arguments) { a.look.At = -1 }, api.ErrRange},
		"look-dive":     {func(a *arguments) { a.look.At = 2 }, api.ErrMissing},
		"after":         {func(a *arguments) { a.after = 999961 }, api.ErrRange},
		"journal":       {func(a *arguments) { a.journal += strings.Repeat("x", 60000) }, api.ErrLarge},
		"second-long":   {func(a *arguments) { a.logs[1] = append(a.logs[1], make([]api.ShipEntry, 60)...) }, api.ErrLarge},
		"second-by":     {func(a *arguments) { a.logs[1][1].By = "" }, api.ErrMissing},
		"second-effect": {func(a *arguments) { a.logs[1][1].Text = "sign 2" }, api.ErrAllowed},
	}
}

// defects are those that the results name among their arguments.
func defects() map[string]defect {
	all := map[string]defect{}
	for _, some := range []map[string]defect{netDefects(), logDefects(), otherDefects()} {
		for name, d := range some {
			all[name] = d
		}
	}
	return all
}

// TestErrorsInOrder is whether each error comes before all those that are listed after it.
func TestErrorsInOrder(t *testing.T) {
	all := defects()
	for i, x := range resultsOf(exampleArguments()) {
		names := strings.Fields(x.arguments)
		for k, name := range names {
			a := exampleArguments()
			for _, later := range slices.Backward(names[k:]) {
				all[later].apply(&a)
			}
			y := resultsOf(a)[i]
			if y.hasIndex() {
				y.values = nil
			}
			y.wantError(t, "with defects of "+strings.Join(names[k:], ", "), all[name].err)
		}
	}
}

// TestErrorsAlone is for each error without any other one.
func TestErrorsAlone(t *testing.T) {
	all := defects()
	for i, x := range resultsOf(exampleArguments()) {
		for _, name := range strings.Fields(x.arguments) {
			a := exampleArguments()
			all[name].apply(&a)
			y := resultsOf(a)[i]
			if y.hasIndex() {
				y.values = nil
			}
			y.wantError(t, "with a defect of "+name, all[name].err)
		}
	}
}

// clearAll overwrites a list, and what lies behind it.
func clearAll[T any](l []T) { clear(l[:cap(l)]) }

// clearNet overwrites all lists of a net.
func clearNet(n api.ShipNet) {
	for _, f := range n.Bus.Functions {
		for _, way := range f.Ways {
			clearAll(way)
		}
		clearAll(f.Ways)
	}
	for _, m := range n.Bus.Modes {
		clearAll(m.Needs)
	}
	for _, x := range n.Site.Tasks {
		clearAll(x.After)
	}
	for _, row := range n.Site.Travel {
		clearAll(row)
	}
	clearAll(n.People)
	clearAll(n.Fix.Beacons)
	clearAll(n.Bus.Parts)
	clearAll(n.Bus.Functions)
	clearAll(n.Bus.Modes)
	clearAll(n.Site.Tasks)
	clearAll(n.Site.Travel)
	clearAll(n.Site.Home)
	clearAll(n.Site.Tides)
	clearAll(n.Begin.Done)
}

func TestArgumentsAreKept(t *testing.T) {
	a := exampleArguments()
	first := resultsOf(a)
	if !reflect.DeepEqual(a, exampleArguments()) {
		t.Errorf("arguments were modified: %v", a)
	}
	again := resultsOf(a)
	clearNet(a.net)
	clearAll(a.logs[0])
	clearAll(a.logs[1])
	if !reflect.DeepEqual(first, again) || !reflect.DeepEqual(first, resultsOf(exampleArguments())) {
		t.Errorf("results depend on something else than arguments: %v, %v", first, again)
	}
	for _, x := range first {
		if x.err != api.OK {
			t.Errorf("%s of the example: error %d", x.name, x.err)
		}
	}
}

// clearState overwrites all lists of a state.
func clearState(s api.ShipState) {
	for _, p := range s.Permits {
		clearAll(p.Plan)
		clearAll(p.Signed)
	}
	for _, d := range s.Dives {
		clearAll(d.State.Done)
		clearAll(d.Tasks)
	}
	for _, x := range s.Samples {
		clearAll(x.Chain)
	}
	clearAll(s.Permits)
	clearAll(s.Dives)
	clearAll(s.Failed)
	clearAll(s.Samples)
}

// wantApart is whether no two lists of a state share memory, also behind their ends.
func wantApart(t *testing.T, s api.ShipState) {
	t.Helper()
	owners := map[uintptr]string{}
	own := func(name string, list any, size uintptr) {
		l := reflect.ValueOf(list)
		for i := range l.Cap() {
			at := l.Pointer() + uintptr(i)*size
			if owner, ok := owners[at]; ok {
				t.Errorf("%s and %s of %v share memory", name, owner, s)
			}
			owners[at] = name
		}
	}
	for i, p := range s.Permits {
		own(fmt.Sprint("the plan ", i), p.Plan, reflect.TypeFor[int]().Size())
		own(fmt.Sprint("the signatures ", i), p.Signed, reflect.TypeFor[string]().Size())
	}
	for i, d := range s.Dives {
		own(fmt.Sprint("what is done of the dive ", i), d.State.Done, reflect.TypeFor[int]().Size())
		own(fmt.Sprint("the tasks of the dive ", i), d.Tasks, reflect.TypeFor[int]().Size())
	}
	for i, x := range s.Samples {
		own(fmt.Sprint("the chain ", i), x.Chain, reflect.TypeFor[api.ShipLink]().Size())
	}
	own("the failed parts", s.Failed, reflect.TypeFor[int]().Size())
}

// TestStatesShareNoMemory is for dives that begin with tasks done, and samples that are split and go on their ways.
func TestStatesShareNoMemory(t *testing.T) {
	n := greatNet()
	n.Begin.Done = []int{2}
	l := logOf("1 kim permit 0 1", "1 kim permit 0 1", "2 pia sign 1", "2 pim sign 1", "2 pia sign 2", "2 pim sign 2", "2 pia fault dvl", "2 pia fault main",
		"3 pia begin 1", "3 pia home", "3 pia begin 2", "4 pia task 0", "5 sam sample s 9 cold", "6 sam transfer s sue", "6 sue split s 2 t", "6 sue split t 1 u", "7 sue transfer s sam", "7 sue transfer t pia")
	s := stateOf(t, n, l)
	wantApart(t, s)
	clearState(s)
	want(t, "Begin", n.Begin.Done, api.OK, []int{2}, api.OK)
	r := newRandom()
	for range 50 {
		n := randomNet(r)
		wantApart(t, stateOf(t, n, randomLog(r, n, 40)))
	}
}

func TestResultsShareNoMemory(t *testing.T) {
	a := exampleArguments()
	first, second := resultsOf(a), resultsOf(a)
	for _, x := range first {
		for _, v := range x.values {
			switch l := v.(type) {
			case []int:
				clearAll(l)
			case []api.ShipEntry:
				clearAll(l)
			case []api.ShipLink:
				clearAll(l)
			case api.ShipDive:
				clearAll(l.Tasks)
				clearAll(l.State.Done)
			case api.ShipState:
				clearState(l)
			}
		}
	}
	if !reflect.DeepEqual(second, resultsOf(exampleArguments())) || !reflect.DeepEqual(a, exampleArguments()) {
		t.Errorf("results share memory: %v, %v", second, a)
	}
}

// spare is a list with memory behind it.
func spare[T any](l []T) []T { return slices.Grow(slices.Clip(l), 9) }

// wantUntouched is whether nothing was written behind a list.
func wantUntouched[T any](t *testing.T, l []T) {
	t.Helper()
	behind := l[len(l):cap(l)]
	if slices.ContainsFunc(behind, func(x T) bool { return !reflect.ValueOf(x).IsZero() }) {
		t.Errorf("memory behind a list was changed: %v, %v", l, behind)
	}
}

func TestSpareCapacityIsKept(t *testing.T) {
	a := exampleArguments()
	a.logs[0], a.logs[1] = spare(a.logs[0]), spare(a.logs[1])
	a.net.People, a.net.Begin.Done = spare(a.net.People), spare(a.net.Begin.Done)
	a.net.Site.Tasks, a.net.Site.Home, a.net.Bus.Parts = spare(a.net.Site.Tasks), spare(a.net.Site.Home), spare(a.net.Bus.Parts)
	a.net.Bus.Functions, a.net.Bus.Modes, a.net.Fix.Beacons = spare(a.net.Bus.Functions), spare(a.net.Bus.Modes), spare(a.net.Fix.Beacons)
	resultsOf(a)
	deskOf(t, a.net, a.logs[0])
	wantUntouched(t, a.logs[0])
	wantUntouched(t, a.logs[1])
	wantUntouched(t, a.net.People)
	wantUntouched(t, a.net.Begin.Done)
	wantUntouched(t, a.net.Site.Tasks)
	wantUntouched(t, a.net.Site.Home)
	wantUntouched(t, a.net.Bus.Parts)
	wantUntouched(t, a.net.Bus.Functions)
	wantUntouched(t, a.net.Bus.Modes)
	wantUntouched(t, a.net.Fix.Beacons)
}

// odd is a number of any size, often one at a limit.
func odd(r *rand.Rand) int {
	return one(r, 0, 0, 1, 1, -1, 2, 3, 4, 5, 6, 7, 9, 1000000000000, 1000000000001, 999960, 999961, 10000, 10001, math.MaxInt, math.MinInt, math.MinInt+1)
}

// oddText is any bytes, often with words of texts.
func oddText(r *rand.Rand) string {
	text := ""
	for range r.IntN(6) {
		text += one(r, "", "sample", "split", "begin", "permit", "dive", "chain", "s", "pia", "1", "0 1", " ", " ", "\n", "\xff", "é", "99999999", "/0", ";range 0 0 1", string(rune(r.IntN(300))))
		text += one(r, " ", " ", "")
	}
	return text
}

// oddNet is any one, seldom valid.
func oddNet(r *rand.Rand) api.ShipNet {
	n := greatNet()
	for range r.IntN(3) + 1 {
		one(r,
			func() { n.People = n.People[:r.IntN(8)] },
			func() { n.People[0] = personOf(oddText(r), odd(r)) },
			func() { n.People = append(n.People, n.People...) },
			func() { n.Fix.World.X.Hi = odd(r) },
			func() { n.Fix.Beacons[0].Place.Y = odd(r) },
			func() { n.Start.Z.Lo = odd(r) },
			func() { n.Bus.Parts = nil },
			func() { n.Bus.Functions[0].Ways[0] = []int{odd(r)} },
			func() { n.Bus.Modes[0].Needs = []int{odd(r), odd(r)} },
			func() { n.Works = odd(r) },
			func() { n.Site.Tasks[0].Window.Hi = odd(r) },
			func() { n.Site.Travel = nil },
			func() { n.Site.Home = []int{odd(r)} },
			func() { n.Begin.At = odd(r) },
			func() { n.Begin.Done = []int{odd(r), odd(r)} },
			func() { n = api.ShipNet{} },
			func() { n = greatNet() },
		)()
		if len(n.People) == 0 || len(n.Fix.Beacons) == 0 || len(n.Site.Tasks) == 0 {
			break
		}
	}
	return n
}

// oddLog is any one, valid or not, made of a valid one.
func oddLog(r *rand.Rand, valid []api.ShipEntry) []api.ShipEntry {
	l := slices.Clone(valid)
	switch r.IntN(4) {
	case 0:
		l = append(l, entryOf(odd(r), oddText(r), oddText(r)))
	case 1:
		l = slices.Delete(l, 0, r.IntN(len(l)+1))
	case 2:
		l = append(l, make([]api.ShipEntry, r.IntN(60))...)
	}
	return l
}

// oddArguments are any ones, valid or not.
func oddArguments(r *rand.Rand, valid [][]api.ShipEntry) arguments {
	n := greatNet()
	if r.IntN(3) == 0 {
		n = oddNet(r)
	}
	l := one(r, valid...)
	next := entryOf(odd(r), oddText(r), oddText(r))
	if len(l) > 0 && r.IntN(2) == 0 {
		next = entryOf(l[len(l)-1].At, one(r, "sam", "pia", "kim"), one(r, "note "+oddText(r), "home", "sign 1", "fault main", oddText(r)))
	}
	return arguments{
		net:      n,
		logs:     [2][]api.ShipEntry{oddLog(r, l), oddLog(r, one(r, valid...))},
		entry:    next,
		tick:     odd(r),
		dive:     one(r, 1, odd(r)),
		look:     lookOf(one(r, 1, odd(r)), one(r, 9, odd(r))),
		tag:      one(r, "s", "s", "t", oddText(r)),
		text:     oddText(r),
		after:    odd(r),
		journal:  journalOf(oddLog(r, l)) + oddText(r),
		question: one(r, "count", "mode", "dive 1", oddText(r)),
	}
}

// TestEveryCallReturns calls everything with anything: beside an error stands no other result, but for an index.
func TestEveryCallReturns(t *testing.T) {
	r := newRandom()
	var valid [][]api.ShipEntry
	for range 30 {
		valid = append(valid, randomLog(r, greatNet(), 20))
	}
	done := map[string]int{}
	for range 1500 {
		a := oddArguments(r, valid)
		for _, x := range resultsOf(a) {
			done[fmt.Sprint(x.name, " ", x.err == api.OK)]++
			if x.err != api.OK && !x.hasIndex() && !x.isZero() {
				t.Fatalf("%v: %s: %v beside the error %d", a, x.name, x.values, x.err)
			}
		}
	}
	for _, x := range resultsOf(exampleArguments()) {
		if done[x.name+" true"] < 50 || done[x.name+" false"] < 50 {
			t.Errorf("%s: %d calls and %d with errors: too few of one kind are tested", x.name, done[x.name+" true"], done[x.name+" false"])
		}
	}
}
