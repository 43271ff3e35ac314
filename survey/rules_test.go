package survey_test

import (
	"fmt"
	"math"
	"math/rand/v2"
	"reflect"
	"slices"
	"strings"
	"testing"

	"moonpool/api"
	"moonpool/survey"
)

// R1, R2, R3, R4, R5, R9

// arguments of every function, whose lists none of them may change.
type arguments struct {
	stations           []api.SurveyStation
	index, depth, pipe int
	at                 int
	a, b               [][2]int
	swaths             []api.Range
	span               api.Range
	need               int
	first, second      []api.SurveyFeature
	skip               int
	match              api.SurveyMatch
	pairs, odd         []api.SurveyPair
	lines              []api.SurveyLine
	runs               []api.SurveyRun
	records            []api.SurveyRecord
	texts              [2]string
}

func exampleArguments() arguments {
	x := arguments{
		stations: exampleStations(),
		index:    1, depth: 4, pipe: 4, at: 50,
		swaths: exampleSwaths(), span: spanOf(0, 50), need: 2,
		skip: 5, match: exampleMatch(),
		pairs:   examplePairs(),
		odd:     append(examplePairs(), oddPair()),
		lines:   exampleLines(),
		runs:    exampleRuns(),
		records: exampleRecords(),
		texts:   [2]string{stationsText, featuresText},
	}
	x.a, x.b = exampleRoutes()
	x.first, x.second = exampleFeatures()
	return x
}

// result is what a function, which takes these arguments in this order, returns.
type result struct {
	name, arguments string
	values          []any
	err             api.Errno
}

// wantError is whether a result is an error alone.
func (x result) wantError(t *testing.T, what string, err api.Errno) {
	t.Helper()
	if x.err != err || !x.isZero() {
		t.Errorf("%s: %s: %v, error %d, want the error %d", x.name, what, x.values, x.err, err)
	}
}

func (x result) isZero() bool {
	return !slices.ContainsFunc(x.values, func(v any) bool { return !reflect.ValueOf(v).IsZero() })
}

// hasIndex is whether a function returns an index beside an error.
func (x result) hasIndex() bool { return x.name == "CheckStations" || x.name == "CheckFeatures" }

// resultsOf are those of all functions.
func resultsOf(a arguments) []result {
	var all []result
	of := func(name, arguments string) func(x any, e api.Errno) {
		return func(x any, e api.Errno) { all = append(all, result{name, arguments, []any{x}, e}) }
	}
	one := func(x any) (any, api.Errno) { return x, api.OK }
	of("CheckStations", "station order")(pair(survey.CheckStations(a.stations)))
	of("BurialAt", "station order index")(pair(survey.BurialAt(a.stations, a.index)))
	of("BuriedBy", "station order depth")(pair(survey.BuriedBy(a.stations, a.depth)))
	of("GapAt", "station order pipe index")(pair(survey.GapAt(a.stations, a.pipe, a.index)))
	of("SpansIn", "station order pipe")(pair(survey.SpansIn(a.stations, a.pipe)))
	of("PossibleIn", "station order pipe")(pair(survey.PossibleIn(a.stations, a.pipe)))
	of("BedAt", "station order at")(pair(survey.BedAt(a.stations, a.at)))
	of("CrossingsOf", "short-a corner-a same-a long-b corner-b same-b")(pair(survey.CrossingsOf(a.a, a.b)))
	of("GapsIn", "swaths swath turned-swath span turned-span need")(pair(survey.GapsIn(a.swaths, a.span, a.need)))
	of("CheckFeatures", "feature kind")(pair(survey.CheckFeatures(a.first)))
	of("CheckMatch", "feature kind second skip missing unordered other rows row potential proof clash")(pair(survey.CheckMatch(a.first, a.second, a.skip, a.match)))
	of("ChangesOf", "feature kind second skip")(pair(survey.ChangesOf(a.first, a.second, a.skip)))
	of("ShiftIn", "no-pairs pair turned-pair apart")(pair(survey.ShiftIn(a.pairs)))
	of("OddPairs", "no-pairs pair turned-pair")(pair(survey.OddPairs(a.odd)))
	of("TravelOf", "lines line runs no-line double")(pair(survey.TravelOf(a.lines, a.runs)))
	of("BoundOf", "lines line")(pair(survey.BoundOf(a.lines)))
	of("MergedOf", "records vessel recorded positions differ")(pair(survey.MergedOf(a.records)))
	of("ReportOf", "records vessel recorded positions differ")(pair(survey.ReportOf(a.records)))
	of("FormatStations", "")(one(survey.FormatStations(a.stations)))
	of("ParseStations", "long syntax text")(pair(survey.ParseStations(a.texts[0])))
	of("FormatFeatures", "")(one(survey.FormatFeatures(a.first)))
	of("ParseFeatures", "long syntax text")(pair(survey.ParseFeatures(a.texts[1])))
	m, cost, e := survey.MatchOf(a.first, a.second, a.skip)
	all = append(all, result{"MatchOf", "feature kind second skip", []any{m, cost}, e})
	runs, travel, e := survey.BestRuns(a.lines)
	return append(all, result{"BestRuns", "lines line", []any{runs, travel}, e})
}

func pair[T any](x T, e api.Errno) (any, api.Errno) { return x, e }

// defect is a change to arguments that makes a function return an error.
type defect struct {
	apply func(a *arguments)
	err   api.Errno
}

// defects are those that the results name among their arguments.
func defects() map[string]defect {
	return map[string]defect{
		"station":      {func(a *arguments) { a.stations[1].Bed.Hi = 10001 }, api.ErrRange},
		"order":        {func(a *arguments) { a.stations[2].At = 99 }, api.ErrOrder},
		"index":        {func(a *arguments) { a.index = 3 }, api.ErrMissing},
		"depth":        {func(a *arguments) { a.depth = -10001 }, api.ErrRange},
		"pipe":         {func(a *arguments) { a.pipe = 0 }, api.ErrRange},
		"at":           {func(a *arguments) { a.at = 201 }, api.ErrMissing},
		"short-a":      {func(a *arguments) { a.a = a.a[:1] }, api.ErrShape},
		"corner-a":     {func(a *arguments) { a.a[0][1] = 201 }, api.ErrRange},
		"same-a":       {func(a *arguments) { a.a[2] = a.a[1] }, api.ErrZero},
		"long-b":       {func(a *arguments) { a.b = append(a.b, make([][2]int, 6)...) }, api.ErrLarge},
		"corner-b":     {func(a *arguments) { a.b[0][0] = -201 }, api.ErrRange},
		"same-b":       {func(a *arguments) { a.b[2] = a.b[1] }, api.ErrZero},
		"swaths":       {func(a *arguments) { a.swaths = append(a.swaths, make([]api.Range, 10)...) }, api.ErrLarge},
		"swath":        {func(a *arguments) { a.swaths[0].Lo = -1 }, api.ErrRange},
		"turned-swath": {func(a *arguments) { a.swaths[1].Lo = 21 }, api.ErrOrder},
		"span":         {func(a *arguments) { a.span.Hi = 100001 }, api.ErrRange},
		"turned-span":  {func(a *arguments) { a.span.Lo = 51 }, api.ErrOrder},
		"need":         {func(a *arguments) { a.need = 13 }, api.ErrRange},
		"feature":      {func(a *arguments) { a.first[0].Size.Hi = 10001 }, api.ErrRange},
		"kind":         {func(a *arguments) { a.first[1].Kind = 3 }, api.ErrKind},
		"second":       {func(a *arguments) { a.second[1].At.Lo = 0 }, api.ErrOrder},
		"skip":         {func(a *arguments) { a.skip = 100001 }, api.ErrRange},
		"missing":      {func(a *arguments) { a.match.Pairs[0][0] = 2 }, api.ErrMissing},
		"unordered":    {func(a *arguments) { a.match.Pairs[1][1] = 0 }, api.ErrOrder},
		"other":        {func(a *arguments) { a.match.Pairs = append(a.match.Pairs[:1], [2]int{1, 2}) }, api.ErrKind},
		"rows":         {func(a *arguments) { a.match.Potentials = a.match.Potentials[:2] }, api.ErrShape},
		"row":          {func(a *arguments) { a.match.Potentials[1] = a.match.Potentials[1][:3] }, api.ErrShape},
		"potential":    {func(a *arguments) { a.match.Potentials[0][0] = -1 }, api.ErrRange},
		"proof":        {func(a *arguments) { a.match.Potentials[0][3] = 16 }, api.ErrProof},
		"clash":        {func(a *arguments) { a.match.Potentials[2][3] = 7 }, api.ErrClash},
		"no-pairs":     {func(a *arguments) { a.pairs, a.odd = nil, nil }, api.ErrShape},
		"pair":         {func(a *arguments) { a.changePairs(func(p *api.SurveyPair) { p.First.Hi = 10001 }) }, api.ErrRange},
		"turned-pair":  {func(a *arguments) { a.changePairs(func(p *api.SurveyPair) { p.Second.Lo = 10 }) }, api.ErrOrder},
		"apart":        {func(a *arguments) { a.pairs = append(a.pairs, oddPair()) }, api.ErrNone},
		"lines":        {func(a *arguments) { a.lines = append(a.lines, a.lines...) }, api.ErrLarge},
		"line":         {func(a *arguments) { a.lines[2].To[1] = 201 }, api.ErrRange},
		"runs":         {func(a *arguments) { a.runs = a.runs[:2] }, api.ErrShape},
		"no-line":      {func(a *arguments) { a.runs[0].Line = -1 }, api.ErrMissing},
		"double":       {func(a *arguments) { a.runs[1].Line = 2 }, api.ErrDouble},
		"records":      {func(a *arguments) { a.records = append(a.records, recordsAt(1, 39)...) }, api.ErrLarge},
		"vessel":       {func(a *arguments) { a.records[0].Vessel = "" }, api.ErrName},
		"recorded":     {func(a *arguments) { a.records[0].Station.Top.Lo = 9 }, api.ErrOrder},
		"positions":    {func(a *arguments) { a.records = append(a.records, recordsAt(21, 1)...) }, api.ErrLarge},
		"differ":       {func(a *arguments) { a.records[1].Station.Top = spanOf(-7, -6) }, api.ErrClash},
		"long":         {func(a *arguments) { a.addText(strings.Repeat(";9 9 0 0 0", 6000)) }, api.ErrLarge},
		"syntax":       {func(a *arguments) { a.addText(";") }, api.ErrSyntax},
		"text":         {func(a *arguments) { a.addText(";5 5 0 0 0;4 4 0 0 0") }, api.ErrOrder},
	}
}

func (a *arguments) changePairs(change func(p *api.SurveyPair)) {
	for _, l := range [][]api.SurveyPair{a.pairs, a.odd} {
		if len(l) > 0 {
			change(&l[0])
		}
	}
}

func (a *arguments) addText(text string) {
	for i := range a.texts {
		a.texts[i] += text
	}
}

// TestErrorsInOrder is whether each error comes before all those that are listed after it.
func TestErrorsInOrder(t *testing.T) {
	all := defects()
	for i, x := range resultsOf(exampleArguments()) {
		names := strings.Fields(x.arguments)
		for k, name := range names {
			a := exampleArguments()
			for _, later := range slices.Backward(names[k:]) {
				all[later].apply(&a)
			}
			y := resultsOf(a)[i]
			if y.hasIndex() {
				y.values = nil
			}
			y.wantError(t, "with defects of "+strings.Join(names[k:], ", "), all[name].err)
		}
	}
}

// clearAll overwrites a list, and what lies behind it.
func clearAll[T any](l []T) { clear(l[:cap(l)]) }

// clearMatch overwrites a match one list after the other, and finds memory that they share.
func clearMatch(t *testing.T, m api.SurveyMatch) {
	clearAll(m.Pairs)
	for i, row := range m.Potentials {
		before := fmt.Sprint(m.Potentials[i+1:])
		clearAll(row)
		if after := fmt.Sprint(m.Potentials[i+1:]); after != before {
			t.Errorf("rows share memory: %s, %s", before, after)
		}
	}
	clearAll(m.Potentials)
}

// clobber overwrites all lists of arguments.
func clobber(t *testing.T, a arguments) {
	clearAll(a.stations)
	clearAll(a.a)
	clearAll(a.b)
	clearAll(a.swaths)
	clearAll(a.first)
	clearAll(a.second)
	clearMatch(t, a.match)
	clearAll(a.pairs)
	clearAll(a.odd)
	clearAll(a.lines)
	clearAll(a.runs)
	clearAll(a.records)
}

func TestArgumentsAreKept(t *testing.T) {
	a := exampleArguments()
	first := resultsOf(a)
	if !reflect.DeepEqual(a, exampleArguments()) {
		t.Errorf("arguments were modified: %v", a)
	}
	again := resultsOf(a)
	clobber(t, a)
	if !reflect.DeepEqual(first, again) || !reflect.DeepEqual(first, resultsOf(exampleArguments())) {
		t.Errorf("results depend on something else than arguments: %v, %v", first, again)
	}
	for _, x := range first {
		if x.err != api.OK {
			t.Errorf("%s of the example: error %d", x.name, x.err)
		}
	}
}

func TestResultsShareNoMemory(t *testing.T) {
	a := exampleArguments()
	first, second := resultsOf(a), resultsOf(a)
	for _, x := range first {
		switch l := x.values[0].(type) {
		case []int:
			clearAll(l)
		case []api.Range:
			clearAll(l)
		case []api.SurveyCrossing:
			clearAll(l)
		case []api.SurveyChange:
			clearAll(l)
		case []api.SurveyStation:
			clearAll(l)
		case []api.SurveyFeature:
			clearAll(l)
		case []api.SurveyRun:
			clearAll(l)
		case api.SurveyMatch:
			clearMatch(t, l)
		}
	}
	if !reflect.DeepEqual(second, resultsOf(exampleArguments())) || !reflect.DeepEqual(a, exampleArguments()) {
		t.Errorf("results share memory: %v, %v", second, a)
	}
}

// spare is a list with memory behind it.
func spare[T any](l []T) []T { return slices.Grow(slices.Clip(l), 9) }

// wantUntouched is whether nothing was written behind a list.
func wantUntouched[T comparable](t *testing.T, l []T) {
	t.Helper()
	var zero T
	behind := l[len(l):cap(l)]
	if slices.ContainsFunc(behind, func(x T) bool { return x != zero }) {
		t.Errorf("memory behind a list was changed: %v, %v", l, behind)
	}
}

func TestSpareCapacityIsKept(t *testing.T) {
	a := exampleArguments()
	a.stations, a.a, a.b, a.swaths = spare(a.stations), spare(a.a), spare(a.b), spare(a.swaths)
	a.first, a.second, a.match.Pairs = spare(a.first), spare(a.second), spare(a.match.Pairs)
	a.pairs, a.odd, a.lines, a.runs, a.records = spare(a.pairs), spare(a.odd), spare(a.lines), spare(a.runs), spare(a.records)
	for i, row := range a.match.Potentials {
		a.match.Potentials[i] = spare(row)
	}
	resultsOf(a)
	wantUntouched(t, a.stations)
	wantUntouched(t, a.a)
	wantUntouched(t, a.b)
	wantUntouched(t, a.swaths)
	wantUntouched(t, a.first)
	wantUntouched(t, a.second)
	wantUntouched(t, a.match.Pairs)
	wantUntouched(t, a.pairs)
	wantUntouched(t, a.odd)
	wantUntouched(t, a.lines)
	wantUntouched(t, a.runs)
	wantUntouched(t, a.records)
	for _, row := range a.match.Potentials {
		wantUntouched(t, row)
	}
}

// odd is a number of any size, often one at a limit.
func odd(r *rand.Rand) int {
	some := []int{0, 0, 1, 1, -1, 2, 3, 4, 5, 6, 9, 12, 20, 200, 201, -200, 1000, 1001, 9999, 10000, 10001, -10000, -10001, 99999, 100000, 100001, 3200000, 3200001, math.MaxInt, math.MinInt, math.MinInt + 1}
	return some[r.IntN(len(some))]
}

func oddRange(r *rand.Rand) api.Range { return spanOf(odd(r), odd(r)) }

func oddStation(r *rand.Rand) api.SurveyStation {
	return api.SurveyStation{At: odd(r), Top: oddRange(r), Bed: oddRange(r)}
}

// oddList is one of any length up to most, which consists of odd items.
func oddList[T any](r *rand.Rand, most int, item func() T) []T {
	l := make([]T, r.IntN(most+1))
	for i := range l {
		l[i] = item()
	}
	return l
}

// oddArguments are any ones, valid or not.
func oddArguments(r *rand.Rand) arguments {
	point := func() [2]int { return [2]int{odd(r), odd(r)} }
	aRange := func() api.Range { return oddRange(r) }
	feature := func() api.SurveyFeature {
		return api.SurveyFeature{At: oddRange(r), Kind: odd(r), Size: oddRange(r)}
	}
	aPair := func() api.SurveyPair { return pairOf(oddRange(r), oddRange(r)) }
	a := arguments{
		stations: oddList(r, 3, func() api.SurveyStation { return oddStation(r) }),
		index:    odd(r), depth: odd(r), pipe: odd(r), at: odd(r),
		a: oddList(r, 4, point), b: oddList(r, 4, point),
		swaths: oddList(r, 4, aRange), span: oddRange(r), need: odd(r),
		first: oddList(r, 3, feature), second: oddList(r, 3, feature), skip: odd(r),
		pairs: oddList(r, 4, aPair), odd: oddList(r, 4, aPair),
		lines: oddList(r, 3, func() api.SurveyLine { return api.SurveyLine{From: point(), To: point()} }),
		runs:  oddList(r, 4, func() api.SurveyRun { return api.SurveyRun{Line: odd(r)} }),
		records: oddList(r, 4, func() api.SurveyRecord {
			return recordOf([]string{"a", "", "-"}[r.IntN(3)], oddStation(r))
		}),
	}
	a.match.Pairs = oddList(r, 3, point)
	a.match.Potentials = oddList(r, 3, func() []int { return oddList(r, 3, func() int { return odd(r) }) })
	return a
}

// mixedArguments are odd ones, of which some are replaced by valid ones.
func mixedArguments(r *rand.Rand) arguments {
	a := oddArguments(r)
	for _, replace := range []func(){
		func() { a.stations = randomStations(r, 20) },
		func() { a.index = r.IntN(len(a.stations) + 1) },
		func() { a.depth, a.pipe, a.at = between(r, -20, 20), between(r, 1, 1000), r.IntN(60) },
		func() { a.a, a.b = randomRoute(r), randomRoute(r) },
		func() { a.swaths, a.span, a.need = randomSwaths(r, 99), randomRange(r, 0, 99), between(r, 1, 12) },
		func() { a.first, a.second, a.skip = randomFeatures(r, 8), randomFeatures(r, 8), randomSkip(r) },
		func() { a.match, _, _ = survey.MatchOf(a.first, a.second, a.skip) },
		func() { a.pairs, a.odd = randomPairs(r, 3), randomPairs(r, 12) },
		func() { a.lines = randomLines(r, 3) },
		func() { a.runs = randomRuns(r, len(a.lines)) },
		func() { a.records = randomRecords(r) },
	} {
		if r.IntN(4) > 0 {
			replace()
		}
	}
	a.texts = [2]string{survey.FormatStations(a.stations), survey.FormatFeatures(a.first)}
	return a
}

// TestEveryCallReturns calls everything with anything: beside an error stands no other result, but for an index.
func TestEveryCallReturns(t *testing.T) {
	r := newRandom()
	done := map[string]int{}
	for range 2000 {
		a := mixedArguments(r)
		for _, x := range resultsOf(a) {
			done[fmt.Sprint(x.name, " ", x.err == api.OK)]++
			if x.err != api.OK && !x.hasIndex() && !x.isZero() {
				t.Fatalf("%v: %s: %v beside the error %d", a, x.name, x.values, x.err)
			}
		}
	}
	for _, x := range resultsOf(exampleArguments()) {
		if done[x.name+" true"] < 100 || done[x.name+" false"] < 100 && !strings.HasPrefix(x.name, "Format") {
			t.Errorf("%s: %d calls and %d with errors: too few of one kind are tested", x.name, done[x.name+" true"], done[x.name+" false"])
		}
	}
}
