package sonar_test

import (
	"math"
	"math/rand/v2"
	"reflect"
	"testing"

	"moonpool/api"
	"moonpool/sonar"
)

// R1, R2, R3, R4

// arguments of every function, whose lists none of them may change.
type arguments struct {
	devices                                    []api.SonarDevice
	turns                                      api.SonarTurns
	template, samples                          []api.Gauss
	shift, limit, cycle, time, depth, altitude int
	layers                                     []api.SonarLayer
	heights, prices                            []int
	ray                                        api.SonarRay
	scene, other                               api.SonarScene
	search                                     api.SonarSearch
	texts                                      [2]string
}

func exampleArguments() arguments {
	return arguments{
		devices:  exampleDevices(),
		turns:    turnsOf(9, 0, 4, 0),
		cycle:    9,
		template: exampleTemplate(),
		samples:  exampleSamples(),
		shift:    1,
		limit:    9,
		layers:   exampleLayers(),
		time:     4,
		depth:    22,
		heights:  []int{0, 3, 1, 2, 6},
		altitude: 4,
		ray:      rayOf(0, 0, 3, 1, true),
		scene:    exampleScene(),
		other:    exampleScene(),
		search:   exampleSearch(),
		prices:   []int{5, 3},
		texts:    [2]string{devicesText, sceneText},
	}
}

// results are those of all functions.
func results(a arguments) []any {
	var all []any
	add := func(x any, e api.Errno) { all = append(all, x, e) }
	addList := func(x []int, e api.Errno) { add(x, e) }
	addIndex := func(x int, e api.Errno) { add(index(x), e) }
	addRange := func(x api.Range, e api.Errno) { add(x, e) }
	addTurns := func(x api.SonarTurns, e api.Errno) { add(x, e) }
	addScene := func(x api.SonarScene, e api.Errno) { add(x, e) }
	addIndex(sonar.CheckDevices(a.devices))
	p, e := sonar.BlindIn(a.devices, a.turns)
	add(p, e)
	addTurns(sonar.FirstTurns(a.devices, a.cycle))
	addTurns(sonar.ShortestTurns(a.devices))
	l, n, e := sonar.BoundOf(a.devices)
	add(l, e)
	add(n, e)
	z, e := sonar.MatchAt(a.template, a.samples, a.shift)
	add(z, e)
	addList(sonar.EchoesIn(a.template, a.samples, a.limit))
	addIndex(sonar.CheckLayers(a.layers))
	addRange(sonar.DepthIn(a.layers, a.time))
	addRange(sonar.TimeIn(a.layers, a.depth))
	addList(sonar.ShadowsIn(a.heights, a.altitude))
	c, e := sonar.CrossedBy(a.ray)
	add(c, e)
	addIndex(sonar.CheckScene(a.scene))
	addList(sonar.StatesOf(a.scene))
	addList(sonar.ContradictedIn(a.scene))
	addList(sonar.OddRays(a.scene))
	addScene(sonar.Merged(a.scene, a.other))
	addIndex(sonar.CheckSearch(a.search))
	l, n, e = sonar.CoverOf(a.search)
	add(l, e)
	add(n, e)
	n, e = sonar.CheckPrices(a.search, a.prices)
	add(n, e)
	d, e := sonar.ParseDevices(a.texts[0])
	add(d, e)
	addScene(sonar.ParseScene(a.texts[1]))
	return append(all, sonar.FormatDevices(a.devices), sonar.FormatScene(a.scene))
}

// index is the place of an error, which stands beside it.
type index int

// clobber overwrites all lists of arguments.
func clobber(a arguments) {
	clear(a.devices)
	clear(a.turns.Starts)
	clear(a.template)
	clear(a.samples)
	clear(a.layers)
	clear(a.heights)
	clear(a.prices)
	clear(a.scene.Rays)
	clear(a.other.Rays)
	clear(a.search.Views)
	clear(a.search.Wanted)
}

func TestArgumentsAreKept(t *testing.T) {
	a := exampleArguments()
	first := results(a)
	if !reflect.DeepEqual(a, exampleArguments()) {
		t.Errorf("arguments were modified: %v", a)
	}
	again := results(a)
	if !reflect.DeepEqual(first, again) {
		t.Errorf("the same arguments have other results: %v, %v", first, again)
	}
	clobber(a)
	if !reflect.DeepEqual(first, again) || !reflect.DeepEqual(first, results(exampleArguments())) {
		t.Errorf("results share memory with arguments")
	}
	for i, x := range first {
		if e, ok := x.(api.Errno); ok && e != api.OK {
			t.Errorf("result %d is the error %d", i, e)
		}
	}
}

// TestMergedWithNothing is whether a scene that is merged with one without rays has memory of its own.
func TestMergedWithNothing(t *testing.T) {
	empty := api.SonarScene{Wide: 4, High: 2}
	for _, isFirst := range []bool{false, true} {
		s := exampleScene()
		m, e := sonar.Merged(s, empty)
		if isFirst {
			m, e = sonar.Merged(empty, s)
		}
		clear(s.Rays)
		want(t, "Merged with no rays", m, e, exampleScene(), api.OK)
	}
}

func TestResultsShareNoMemory(t *testing.T) {
	first, second := results(exampleArguments()), results(exampleArguments())
	for _, x := range first {
		switch l := x.(type) {
		case []int:
			clear(l)
		case []api.SonarDevice:
			clear(l)
		case []api.SonarCell:
			clear(l)
		case api.SonarTurns:
			clear(l.Starts)
		case api.SonarScene:
			clear(l.Rays)
		}
	}
	if !reflect.DeepEqual(second, results(exampleArguments())) {
		t.Errorf("results share memory: %v", second)
	}
}

func TestSpareCapacityIsKept(t *testing.T) {
	rays := make([]api.SonarRay, 2, 10)
	copy(rays, exampleScene().Rays)
	starts := append(make([]int, 0, 10), 0, 4, 0)
	a := exampleArguments()
	a.scene.Rays, a.turns.Starts = rays, starts
	results(a)
	for _, r := range rays[len(rays):cap(rays)] {
		if r != (api.SonarRay{}) {
			t.Fatalf("memory behind rays was changed: %v", rays[:cap(rays)])
		}
	}
	for _, start := range starts[len(starts):cap(starts)] {
		if start != 0 {
			t.Fatalf("memory behind starts was changed: %v", starts[:cap(starts)])
		}
	}
}

// odd is a number of any size, often one at a limit.
func odd(r *rand.Rand) int {
	some := []int{0, 1, -1, 2, 3, 4, 5, 10, 11, 12, 20, 40, 100, 1000, 1001, 10000, 100000, api.MaxSonarPower, math.MaxInt, math.MinInt, math.MinInt + 1}
	return some[r.IntN(len(some))]
}

func odds(r *rand.Rand) []int {
	l := make([]int, r.IntN(7))
	for i := range l {
		l[i] = odd(r)
	}
	return l
}

func oddCell(r *rand.Rand) api.SonarCell { return api.SonarCell{X: odd(r), Y: odd(r)} }

func oddRay(r *rand.Rand) api.SonarRay {
	return api.SonarRay{From: oddCell(r), To: oddCell(r), Hit: r.IntN(2) == 0}
}

// oddLists are arguments with any lists, valid or not.
func oddLists(r *rand.Rand) arguments {
	var a arguments
	for range r.IntN(12) {
		a.devices = append(a.devices, api.SonarDevice{Band: odd(r), Send: odd(r), Listen: odd(r)})
		a.template = append(a.template, api.Gauss{Re: odd(r), Im: odd(r)})
		a.samples = append(a.samples, api.Gauss{Re: odd(r), Im: odd(r)})
		a.layers = append(a.layers, api.SonarLayer{Thick: odd(r), Speed: api.Range{Lo: odd(r), Hi: odd(r)}})
		a.scene.Rays = append(a.scene.Rays, oddRay(r))
		a.search.Views = append(a.search.Views, api.SonarView{Ray: oddRay(r), Cost: odd(r)})
	}
	a.scene.Wide, a.scene.High = odd(r), odd(r)
	a.search.Wide, a.search.High = odd(r), odd(r)
	a.search.Wanted = odds(r)
	return a
}

// validLists are arguments with valid lists.
func validLists(r *rand.Rand) arguments {
	wide, high := between(r, 1, 12), between(r, 1, 12)
	return arguments{
		devices:  randomDevices(r, between(r, 1, 5), 10),
		template: randomWave(r, between(r, 1, 8), 1000),
		samples:  randomWave(r, between(r, 1, 40), 1000),
		layers:   randomLayers(r),
		scene:    randomScene(r, wide, high, r.IntN(11)),
		search:   randomSearch(r),
	}
}

// oddArguments are any ones, valid or not.
func oddArguments(r *rand.Rand) arguments {
	a := oddLists(r)
	if r.IntN(3) > 0 {
		a = validLists(r)
	}
	a.turns = turnsOf(odd(r), odds(r)...)
	a.cycle, a.shift, a.limit, a.time, a.depth, a.altitude = odd(r), odd(r), odd(r), odd(r), odd(r), odd(r)
	a.heights, a.prices = odds(r), odds(r)
	a.ray = oddRay(r)
	a.other = oddLists(r).scene
	a.texts = [2]string{sonar.FormatDevices(a.devices), sonar.FormatScene(a.scene)}
	return a
}

// TestEveryCallReturns calls everything with anything: beside an error stands no other result, but for an index.
func TestEveryCallReturns(t *testing.T) {
	r := newRandom()
	for range 3000 {
		a := oddArguments(r)
		all := results(a)
		for i := 1; i < len(all); i += 2 {
			e, ok := all[i].(api.Errno)
			_, isIndex := all[i-1].(index)
			if ok && e != api.OK && !isIndex && !reflect.ValueOf(all[i-1]).IsZero() {
				t.Fatalf("%v: %v beside the error %d", a, all[i-1], e)
			}
		}
	}
}
