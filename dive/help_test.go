package dive_test

import (
	"fmt"
	"math/rand/v2"
	"slices"
	"strings"
	"testing"

	"moonpool/api"
	"moonpool/dive"
)

// want compares a result and an error. Results are compared as they are printed: a nil slice and an empty one are the same result.
func want(t *testing.T, what string, got any, e api.Errno, wanted any, err api.Errno) {
	t.Helper()
	if fmt.Sprint(got) != fmt.Sprint(wanted) || e != err {
		t.Errorf("%s: %v, error %d, want %v, error %d", what, got, e, wanted, err)
	}
}

// none is a list without numbers.
var none []int

// zero is a price, or the bound 0.
var zero = fracOf(0, 1)

func spanOf(lo, hi int) api.Range { return api.Range{Lo: lo, Hi: hi} }

func fracOf(num, den int) api.Frac { return api.Frac{Num: num, Den: den} }

// taskOf is a task with the numbers Place, Duration, Power, Oil, Value, and both ends of Window.
func taskOf(name string, n [7]int, after ...int) api.DiveTask {
	return api.DiveTask{Name: name, Place: n[0], Duration: n[1], Power: n[2], Oil: n[3], Value: n[4], Window: spanOf(n[5], n[6]), After: after}
}

func tideOf(lo, hi, slow int) api.DiveTide { return api.DiveTide{Ticks: spanOf(lo, hi), Slow: slow} }

func stateOf(place, at, power, oil int, done ...int) api.DiveState {
	return api.DiveState{Place: place, At: at, Power: power, Oil: oil, Done: done}
}

// exampleSite is the site d of the chapter's examples, exampleState the state s.
func exampleSite() api.DiveSite {
	return api.DiveSite{
		Tasks: []api.DiveTask{
			taskOf("valve", [7]int{1, 20, 30, 4, 50, 0, 300}),
			taskOf("probe", [7]int{2, 10, 10, 1, 30, 80, 90}),
			taskOf("close", [7]int{1, 10, 20, 2, 40, 0, 400}, 0),
		},
		Travel: [][]int{{0, 10, 20}, {10, 0, 10}, {20, 10, 0}},
		Home:   []int{30, 40, 50},
		Tides:  []api.DiveTide{tideOf(100, 199, 5)},
		Idle:   1, Swim: 2, Reserve: 20, End: 400,
	}
}

func exampleState() api.DiveState { return stateOf(0, 0, 300, 6) }

// changed is the example's site with a change.
func changed(change func(d *api.DiveSite)) api.DiveSite {
	d := exampleSite()
	change(&d)
	return d
}

// exampleRota is that of example 8, exampleWatches are its watches.
func exampleRota() api.DiveRota {
	return api.DiveRota{Span: spanOf(0, 99), Pilots: 2, Work: 40, Rest: 30}
}

func exampleWatches() []api.DiveWatch {
	return []api.DiveWatch{watchOf(0, 0, 39), watchOf(1, 40, 79), watchOf(0, 80, 99)}
}

func watchOf(pilot, lo, hi int) api.DiveWatch {
	return api.DiveWatch{Pilot: pilot, Ticks: spanOf(lo, hi)}
}

func newRandom() *rand.Rand { return rand.New(rand.NewPCG(8, 8)) }

// between is a random number from low to high.
func between(r *rand.Rand, low, high int) int { return low + r.IntN(high-low+1) }

// upTo are the numbers from low to high.
func upTo(low, high int) []int {
	var l []int
	for n := low; n <= high; n++ {
		l = append(l, n)
	}
	return l
}

// randomSet is a random set of numbers below count.
func randomSet(r *rand.Rand, count int) []int {
	set := r.Perm(count)[:r.IntN(count+1)]
	slices.Sort(set)
	return set
}

// randomSite is a valid site of at most most tasks.
func randomSite(r *rand.Rand, most int) api.DiveSite {
	places := between(r, 1, 5)
	d := api.DiveSite{Idle: r.IntN(3), Swim: r.IntN(4), Reserve: r.IntN(10), End: between(r, 20, 90)}
	for i := range between(r, 0, most) {
		lo := r.IntN(30) * r.IntN(2)
		d.Tasks = append(d.Tasks, taskOf(string(rune('a'+i)), [7]int{r.IntN(places), r.IntN(7), r.IntN(8), r.IntN(4), r.IntN(9), lo, lo + r.IntN(60)}))
		if r.IntN(2) == 0 {
			d.Tasks[i].After = randomSet(r, min(i, 2))
		}
	}
	for place := range places {
		row := make([]int, places)
		for i := range row {
			row[i] = r.IntN(8) * r.IntN(5) / 3
		}
		row[place] = 0
		d.Travel = append(d.Travel, row)
		d.Home = append(d.Home, r.IntN(12)*r.IntN(4)/3)
	}
	for tick := r.IntN(20); tick < 90 && len(d.Tides) < r.IntN(6); {
		hi := tick + r.IntN(20)
		d.Tides = append(d.Tides, tideOf(tick, hi, r.IntN(15)))
		tick = hi + between(r, 1, 12)
	}
	return d
}

// randomState is a valid state of a site. It can often return.
func randomState(r *rand.Rand, d api.DiveSite) api.DiveState {
	s := stateOf(r.IntN(len(d.Home)), r.IntN(25)*r.IntN(2), r.IntN(200), r.IntN(9))
	if r.IntN(2) == 0 {
		s.Done = randomSet(r, len(d.Tasks))
	}
	return s
}

// returningDive is a valid site, and a valid state of it that can return.
func returningDive(r *rand.Rand, most int) (api.DiveSite, api.DiveState) {
	for {
		d := randomSite(r, most)
		s := randomState(r, d)
		if can, _ := dive.CanReturn(d, s); can {
			return d, s
		}
	}
}

// sets are all sets of the numbers below count, the smaller ones first, those of one size in lexicographic order.
func sets(count int) [][]int {
	var all [][]int
	for bits := range 1 << count {
		var set []int
		for n := range count {
			if bits>>n&1 == 1 {
				set = append(set, n)
			}
		}
		all = append(all, set)
	}
	slices.SortFunc(all, func(a, b []int) int {
		if len(a) != len(b) {
			return len(a) - len(b)
		}
		return slices.Compare(a, b)
	})
	return all
}

// orders are all orders of some of the numbers below count, in lexicographic order.
func orders(count int) [][]int {
	all := [][]int{nil}
	for i := 0; i < len(all); i++ {
		for n := range count {
			if !slices.Contains(all[i], n) {
				all = append(all, append(slices.Clone(all[i]), n))
			}
		}
	}
	slices.SortFunc(all, slices.Compare)
	return all
}

// vehicle is a vehicle at a site, which is followed tick by tick.
type vehicle struct {
	site api.DiveSite
	api.DiveState
}

// swim swims, one tick after the other.
func (v vehicle) swim(ticks int) vehicle {
	for _, t := range v.site.Tides {
		if ticks > 0 && slices.Contains(upTo(t.Ticks.Lo, t.Ticks.Hi), v.At) {
			ticks += t.Slow
			break
		}
	}
	for range ticks {
		v.At++
		v.Power -= v.site.Swim
	}
	return v
}

// comesBack is whether it comes back with its reserve, if it goes home now.
func (v vehicle) comesBack() bool {
	home := v.swim(v.site.Home[v.Place])
	return home.Power >= v.site.Reserve && home.At <= v.site.End
}

// idle waits, one tick after the other.
func (v vehicle) idle(until int) vehicle {
	for v.At < until {
		v.At++
		v.Power -= v.site.Idle
	}
	return v
}

// does is the vehicle after a task that there is.
func (v vehicle) does(task int) (vehicle, api.Errno) {
	if slices.Contains(v.Done, task) {
		return v, api.ErrDouble
	}
	t := v.site.Tasks[task]
	for _, needed := range t.After {
		if !slices.Contains(v.Done, needed) {
			return v, api.ErrOrder
		}
	}
	v = v.swim(v.site.Travel[v.Place][t.Place])
	if v.At > t.Window.Hi {
		return v, api.ErrBreak
	}
	v = v.idle(t.Window.Lo)
	v.Place, v.Power, v.Oil = t.Place, v.Power-t.Power, v.Oil-t.Oil
	if v.Oil < 0 {
		return v, api.ErrZero
	}
	for range t.Duration {
		v.At++
	}
	v.Done = append(slices.Clone(v.Done), task)
	slices.Sort(v.Done)
	if !v.comesBack() {
		return v, api.ErrRefused
	}
	return v, api.OK
}

// accepts is whether a plan is accepted.
func accepts(d api.DiveSite, s api.DiveState, plan []int) bool {
	v, e := vehicle{d, s}, api.OK
	for _, task := range plan {
		if v, e = v.does(task); e != api.OK {
			return false
		}
	}
	return true
}

func valueOf(d api.DiveSite, plan []int) int {
	sum := 0
	for _, task := range plan {
		sum += d.Tasks[task].Value
	}
	return sum
}

func TestExamplesAndRandomDivesAreValid(t *testing.T) {
	i, e := dive.CheckState(exampleSite(), exampleState())
	want(t, "CheckState of the example", i, e, 0, api.OK)
	r := newRandom()
	for range 1000 {
		d := randomSite(r, 6)
		s := randomState(r, d)
		i, e := dive.CheckState(d, s)
		want(t, fmt.Sprint("CheckState of ", d, s), i, e, 0, api.OK)
	}
	i, e = dive.CheckWatches(exampleRota(), exampleWatches())
	want(t, "CheckWatches of the example", i, e, 0, api.OK)
	var all []string
	for _, l := range orders(3) {
		all = append(all, fmt.Sprint(l))
	}
	if s := strings.Join(all, ""); s != "[][0][0 1][0 1 2][0 2][0 2 1][1][1 0][1 0 2][1 2][1 2 0][2][2 0][2 0 1][2 1][2 1 0]" {
		t.Errorf("the orders of 3 numbers: %s", s)
	}
}
