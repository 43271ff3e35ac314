package dive_test

import (
	"fmt"
	"math"
	"strings"
	"testing"

	"moonpool/api"
	"moonpool/dive"
)

// P8.2, P8.8

// badState is a state of the example's site that CheckState refuses, with the index and the error.
type badState struct {
	name  string
	state api.DiveState
	index int
	err   api.Errno
}

func badStates() []badState {
	all := []badState{
		{"the place before the tick", stateOf(3, -1, 300, 6), 0, api.ErrMissing},
		{"the tick before Done", stateOf(0, -1, 300, 6, 3), 0, api.ErrRange},
		{"the oil before Done", stateOf(0, 0, 300, 10001, 3), 0, api.ErrRange},
		{"no such task", stateOf(0, 0, 300, 6, 3), 0, api.ErrMissing},
		{"no such task behind others", stateOf(0, 0, 300, 6, 0, 1, 3), 2, api.ErrMissing},
		{"the task -1", stateOf(0, 0, 300, 6, 0, -1), 1, api.ErrMissing},
		{"the least task", stateOf(0, 0, 300, 6, math.MinInt), 0, api.ErrMissing},
		{"a task twice", stateOf(0, 0, 300, 6, 1, 1), 1, api.ErrOrder},
		{"tasks in the wrong order", stateOf(0, 0, 300, 6, 0, 2, 1), 2, api.ErrOrder},
		{"missing before order in one number", stateOf(0, 0, 300, 6, 0, 2, -1), 2, api.ErrMissing},
		{"order before missing in the next number", stateOf(0, 0, 300, 6, 2, 1, 3), 1, api.ErrOrder},
	}
	for _, bad := range []int{-1, 3, math.MaxInt, math.MinInt} {
		all = append(all, badState{fmt.Sprint("Place ", bad), stateOf(bad, 0, 300, 6), 0, api.ErrMissing})
	}
	for _, bad := range []int{-1, math.MaxInt, math.MinInt} {
		all = append(all,
			badState{fmt.Sprint("At ", bad), stateOf(0, bad, 300, 6), 0, api.ErrRange},
			badState{fmt.Sprint("Power ", bad), stateOf(0, 0, bad, 6), 0, api.ErrRange},
			badState{fmt.Sprint("Oil ", bad), stateOf(0, 0, 300, bad), 0, api.ErrRange},
		)
	}
	return append(all,
		badState{"At too late", stateOf(0, 100001, 300, 6), 0, api.ErrRange},
		badState{"Power too great", stateOf(0, 0, 100000001, 6), 0, api.ErrRange},
		badState{"Oil too great", stateOf(0, 0, 300, 10001), 0, api.ErrRange},
	)
}

func TestCheckState(t *testing.T) {
	for _, s := range []api.DiveState{
		exampleState(),
		{},
		stateOf(2, 100000, 100000000, 10000, 0, 1, 2),
		stateOf(1, 0, 0, 0, 2), // without the task that 2 needs
	} {
		i, e := dive.CheckState(exampleSite(), s)
		want(t, fmt.Sprint("CheckState of ", s), i, e, 0, api.OK)
	}
	for _, c := range badStates() {
		i, e := dive.CheckState(exampleSite(), c.state)
		want(t, "CheckState: "+c.name, i, e, c.index, c.err)
	}
	i, e := dive.CheckState(changed(func(d *api.DiveSite) { d.Tasks[2].Name = "" }), stateOf(3, 0, 0, 0))
	want(t, "CheckState of a bad site, whose index is no one of Done", i, e, 0, api.ErrName)
}

// TestBadStates calls all functions of states.
func TestBadStates(t *testing.T) {
	for _, c := range badStates() {
		a := exampleArguments()
		a.state = c.state
		for _, x := range resultsOf(a) {
			if x.takes("state") && x.name != "CheckState" {
				x.wantError(t, c.name, c.err)
			}
		}
	}
}

// tidySite has the place 0 at the ship, and two tides.
func tidySite() api.DiveSite {
	return changed(func(d *api.DiveSite) {
		d.Home = []int{0, 40, 50}
		d.Tides = []api.DiveTide{tideOf(0, 9, 7), tideOf(10, 19, 5), tideOf(30, 30, 0)}
	})
}

func TestReturnFrom(t *testing.T) {
	for _, c := range []struct {
		site         api.DiveSite
		place, at    int
		ticks, power int
	}{
		{exampleSite(), 0, 0, 30, 60},
		{exampleSite(), 1, 30, 40, 80},
		{exampleSite(), 1, 99, 40, 80},
		{exampleSite(), 1, 100, 45, 90},
		{exampleSite(), 2, 150, 55, 110},
		{exampleSite(), 1, 199, 45, 90},
		{exampleSite(), 1, 200, 40, 80},
		{tidySite(), 0, 0, 0, 0},
		{tidySite(), 1, 0, 47, 94},
		{tidySite(), 1, 9, 47, 94},
		{tidySite(), 1, 10, 45, 90},
		{tidySite(), 0, 15, 0, 0},
		{tidySite(), 1, 20, 40, 80},
		{tidySite(), 1, 30, 40, 80},
		{changed(func(d *api.DiveSite) { d.Swim = 0 }), 1, 100, 45, 0},
		{greatSite(), 4, 100000, 20000, 200000000},
	} {
		x, e := dive.ReturnFrom(c.site, stateOf(c.place, c.at, 0, 0))
		want(t, fmt.Sprint("ReturnFrom ", c.place, " at ", c.at), x, e, api.DiveReturn{Ticks: c.ticks, Power: c.power}, api.OK)
	}
}

func TestCanReturn(t *testing.T) {
	for _, c := range []struct {
		name  string
		site  api.DiveSite
		state api.DiveState
		can   bool
	}{
		{"the example", exampleSite(), exampleState(), true},
		{"exactly at the reserve", exampleSite(), stateOf(0, 0, 80, 0), true},
		{"below the reserve", exampleSite(), stateOf(0, 0, 79, 0), false},
		{"exactly at the end", exampleSite(), stateOf(0, 370, 300, 0), true},
		{"after the end", exampleSite(), stateOf(0, 371, 300, 0), false},
		{"exactly at the reserve in a tide", exampleSite(), stateOf(1, 170, 110, 0), true},
		{"below the reserve in a tide", exampleSite(), stateOf(1, 170, 109, 0), false},
		{"at the ship, at the end", tidySite(), stateOf(0, 400, 20, 0), true},
		{"at the ship, without the reserve", tidySite(), stateOf(0, 0, 19, 0), false},
		{"at the ship, after the end", tidySite(), stateOf(0, 401, 300, 0), false},
		{"with nothing, which is enough", api.DiveSite{Home: []int{0}, Travel: [][]int{{0}}}, stateOf(0, 0, 0, 0), true},
		{"a state of which all is done", exampleSite(), stateOf(0, 0, 80, 0, 0, 1, 2), true},
	} {
		can, e := dive.CanReturn(c.site, c.state)
		want(t, "CanReturn: "+c.name, can, e, c.can, api.OK)
	}
}

func TestLastReturn(t *testing.T) {
	site := func(idle, end int, tides ...api.DiveTide) api.DiveSite {
		return changed(func(d *api.DiveSite) { d.Idle, d.End, d.Tides = idle, end, tides })
	}
	for _, c := range []struct {
		name  string
		site  api.DiveSite
		state api.DiveState
		last  int
		err   api.Errno
	}{
		{"example 3", exampleSite(), stateOf(1, 30, 250, 2, 0), 170, api.OK},
		{"one tick more", exampleSite(), stateOf(1, 30, 251, 2, 0), 171, api.OK},
		{"up to the end", exampleSite(), stateOf(0, 0, 100000, 0), 370, api.OK},
		{"without the power of waiting", site(0, 400), stateOf(0, 7, 80, 0), 370, api.OK},
		{"its own tick", site(1, 400), stateOf(0, 7, 80, 0), 7, api.OK},
		{"its own tick, at the end", site(0, 400), stateOf(0, 370, 80, 0), 370, api.OK},
		{"at the ship until the end", tidySite(), stateOf(0, 0, 420, 0), 400, api.OK},
		{"at the ship at the end", tidySite(), stateOf(0, 400, 20, 0), 400, api.OK},
		{"too little power", site(1, 400), stateOf(0, 7, 79, 0), 0, api.ErrNone},
		{"too late", site(1, 400), stateOf(0, 371, 300, 0), 0, api.ErrNone},
		{"after the end", site(1, 400), stateOf(0, 401, 300, 0), 0, api.ErrNone},
		{"after a tide in which it cannot return", site(0, 280, tideOf(100, 199, 120)), stateOf(0, 0, 80, 0), 250, api.OK},
		{"after a tide in which it begins", site(0, 280, tideOf(100, 199, 120)), stateOf(0, 170, 80, 0), 250, api.OK},
		{"before a tide after which it is too late", site(0, 229, tideOf(100, 199, 120)), stateOf(0, 0, 80, 0), 99, api.OK},
		{"between two tides", site(0, 280, tideOf(100, 199, 120), tideOf(220, 400, 50)), stateOf(0, 170, 80, 0), 219, api.OK},
		{"the greatest site", greatSite(), stateOf(0, 0, 100000000, 0), 0, api.ErrNone},
		{"the greatest site without Idle", site(0, 100000), stateOf(0, 0, 100000000, 0), 99970, api.OK},
	} {
		last, e := dive.LastReturn(c.site, c.state)
		want(t, "LastReturn: "+c.name, last, e, c.last, c.err)
	}
}

// TestReturnsTickByTick follows vehicles home, from each tick until which they may wait.
func TestReturnsTickByTick(t *testing.T) {
	r := newRandom()
	seen := map[string]int{}
	for range 3000 {
		d := randomSite(r, 3)
		s := randomState(r, d)
		v := vehicle{d, s}
		back := v.swim(d.Home[s.Place])
		x, e := dive.ReturnFrom(d, s)
		want(t, fmt.Sprint("ReturnFrom ", d, s), x, e, api.DiveReturn{Ticks: back.At - s.At, Power: s.Power - back.Power}, api.OK)
		can, e := dive.CanReturn(d, s)
		want(t, fmt.Sprint("CanReturn ", d, s), can, e, v.comesBack(), api.OK)
		var ticks []string
		last, err := 0, api.ErrNone
		for tick := s.At; tick <= d.End; tick++ {
			comesBack := v.idle(tick).comesBack()
			ticks = append(ticks, fmt.Sprint(comesBack))
			if comesBack {
				last, err = tick, api.OK
			}
		}
		n, e := dive.LastReturn(d, s)
		want(t, fmt.Sprint("LastReturn ", d, s), n, e, last, err)
		seen[fmt.Sprint(can, strings.Contains(strings.Join(ticks, " "), "false true"))]++
	}
	for _, kind := range []string{"true true", "true false", "false true", "false false"} {
		if seen[kind] < 10 {
			t.Errorf("too few states of one kind are tested: %v", seen)
		}
	}
}
