package winch_test

import (
	"math"
	"math/rand/v2"
	"slices"
	"testing"

	"moonpool/api"
	"moonpool/winch"
)

// P2.2, P2.9

func exampleLimits() api.WinchLimits { return api.WinchLimits{Speed: 3, Step: 1} }

func badLimits() []api.WinchLimits {
	return []api.WinchLimits{
		{}, {Speed: 0, Step: 1}, {Speed: 1, Step: 0}, {Speed: 101, Step: 1}, {Speed: 1, Step: 101},
		{Speed: -1, Step: 1}, {Speed: 1, Step: -1}, {Speed: math.MinInt, Step: 1}, {Speed: 1, Step: math.MaxInt},
	}
}

func TestCheckProfile(t *testing.T) {
	x := exampleLimits()
	for _, c := range []struct {
		name   string
		limits api.WinchLimits
		speeds []int
		result int
		err    api.Errno
	}{
		{"example", x, []int{1, 2, 3, 2, 1, 1}, 10, api.OK},
		{"no ticks", x, nil, 0, api.OK},
		{"rest", x, []int{0, 0}, 0, api.OK},
		{"a pause", x, []int{1, 0, 1}, 2, api.OK},
		{"the greatest number of ticks", x, slices.Repeat([]int{1}, 200), 200, api.OK},
		{"the greatest limits", api.WinchLimits{Speed: 100, Step: 100}, []int{100, 0, 100}, 200, api.OK},
		{"a step above the speed", api.WinchLimits{Speed: 2, Step: 100}, []int{2, 2}, 4, api.OK},
		{"too many ticks", x, make([]int, 201), 0, api.ErrLarge},
		{"too many ticks before speeds", x, append(make([]int, 200), 9), 0, api.ErrLarge},
		{"too fast", x, []int{1, 2, 3, 4, 3, 2, 1}, 3, api.ErrRange},
		{"backwards", x, []int{1, 0, -1}, 2, api.ErrRange},
		{"the least int", x, []int{1, math.MinInt}, 1, api.ErrRange},
		{"the greatest int", x, []int{math.MaxInt}, 0, api.ErrRange},
		{"range before break", x, []int{1, 4}, 1, api.ErrRange},
		{"begins too fast", x, []int{2, 1}, 0, api.ErrBreak},
		{"jumps up", x, []int{1, 3}, 1, api.ErrBreak},
		{"jumps down", x, []int{1, 2, 3, 1}, 3, api.ErrBreak},
		{"items in their order", x, []int{2, 9}, 0, api.ErrBreak},
		{"break before open", x, []int{2}, 0, api.ErrBreak},
		{"does not end", x, []int{1, 2}, 1, api.ErrOpen},
		{"does not end, later", x, []int{1, 2, 3, 3}, 3, api.ErrOpen},
		{"ends at its step", api.WinchLimits{Speed: 9, Step: 4}, []int{4, 8, 4}, 16, api.OK},
		{"ends above its step", api.WinchLimits{Speed: 9, Step: 4}, []int{4, 8, 5}, 2, api.ErrOpen},
	} {
		n, e := winch.CheckProfile(c.limits, c.speeds)
		want(t, c.name, n, e, c.result, c.err)
	}
	for _, bad := range badLimits() {
		for _, speeds := range [][]int{nil, {1, 3}, make([]int, 201)} {
			n, e := winch.CheckProfile(bad, speeds)
			want(t, "bad limits", n, e, 0, api.ErrRange)
		}
	}
}

func TestTicksFor(t *testing.T) {
	slow, tight := api.WinchLimits{Speed: 1, Step: 1}, api.WinchLimits{Speed: 100, Step: 1}
	for _, c := range []struct {
		limits          api.WinchLimits
		distance, ticks int
		err             api.Errno
	}{
		{exampleLimits(), 0, 0, api.OK},
		{exampleLimits(), 1, 1, api.OK},
		{exampleLimits(), 2, 2, api.OK},
		{exampleLimits(), 3, 3, api.OK},
		{exampleLimits(), 4, 3, api.OK},
		{exampleLimits(), 9, 5, api.OK},
		{exampleLimits(), 10, 6, api.OK},
		{exampleLimits(), 12, 6, api.OK},
		{exampleLimits(), 13, 7, api.OK},
		{slow, 200, 200, api.OK},
		{slow, 201, 0, api.ErrLarge},
		{slow, 10000, 0, api.ErrLarge},
		{tight, 9900, 198, api.OK},
		{tight, 9901, 199, api.OK},
		{tight, 10000, 199, api.OK},
		{api.WinchLimits{Speed: 100, Step: 100}, 10000, 100, api.OK},
		{api.WinchLimits{Speed: 100, Step: 100}, 101, 2, api.OK},
		{api.WinchLimits{Speed: 5, Step: 100}, 11, 3, api.OK},
		{slow, -1, 0, api.ErrRange},
		{slow, 10001, 0, api.ErrRange},
		{slow, math.MinInt, 0, api.ErrRange},
		{slow, math.MaxInt, 0, api.ErrRange},
	} {
		n, e := winch.TicksFor(c.limits, c.distance)
		want(t, "TicksFor", n, e, c.ticks, c.err)
		l, e := winch.ProfileFor(c.limits, c.distance)
		want(t, "ticks of ProfileFor", len(l), e, c.ticks, c.err)
	}
	for _, bad := range badLimits() {
		for _, distance := range []int{-1, 0, 5} {
			n, e := winch.TicksFor(bad, distance)
			want(t, "TicksFor within bad limits", n, e, 0, api.ErrRange)
			l, e := winch.ProfileFor(bad, distance)
			want(t, "ProfileFor within bad limits", l, e, []int(nil), api.ErrRange)
		}
	}
}

func TestProfileFor(t *testing.T) {
	for _, c := range []struct {
		limits   api.WinchLimits
		distance int
		speeds   []int
	}{
		{exampleLimits(), 10, []int{1, 2, 3, 2, 1, 1}},
		{exampleLimits(), 0, nil},
		{exampleLimits(), 3, []int{1, 1, 1}},
		{exampleLimits(), 5, []int{1, 2, 1, 1}},
		{exampleLimits(), 8, []int{1, 2, 2, 2, 1}},
		{exampleLimits(), 12, []int{1, 2, 3, 3, 2, 1}},
		{api.WinchLimits{Speed: 7, Step: 7}, 8, []int{7, 1}},
		{api.WinchLimits{Speed: 9, Step: 4}, 9, []int{4, 4, 1}},
		{api.WinchLimits{Speed: 9, Step: 4}, 10, []int{4, 5, 1}},
	} {
		l, e := winch.ProfileFor(c.limits, c.distance)
		want(t, "ProfileFor", l, e, c.speeds, api.OK)
	}
}

// profiles yields all profiles of so many ticks, the lexicographically greatest one first.
func profiles(x api.WinchLimits, ticks int, yield func(speeds []int) bool) {
	var add func(speeds []int, before int) bool
	add = func(speeds []int, before int) bool {
		if len(speeds) == ticks {
			return before > x.Step || yield(speeds)
		}
		for s := x.Speed; s >= 0; s-- {
			if s-before <= x.Step && before-s <= x.Step && !add(append(speeds, s), s) {
				return false
			}
		}
		return true
	}
	add(nil, 0)
}

func sum(l []int) int {
	n := 0
	for _, x := range l {
		n += x
	}
	return n
}

// TestAllProfiles finds the greatest profile of the fewest ticks for each distance among all profiles.
func TestAllProfiles(t *testing.T) {
	for _, x := range []api.WinchLimits{{Speed: 1, Step: 1}, {Speed: 3, Step: 1}, {Speed: 4, Step: 2}, {Speed: 5, Step: 3}, {Speed: 3, Step: 9}, {Speed: 9, Step: 1}} {
		best := map[int][]int{}
		for ticks := 0; ticks <= 7; ticks++ {
			profiles(x, ticks, func(speeds []int) bool {
				if _, known := best[sum(speeds)]; !known {
					best[sum(speeds)] = slices.Clone(speeds)
				}
				return true
			})
		}
		for distance, speeds := range best {
			l, e := winch.ProfileFor(x, distance)
			want(t, "ProfileFor", l, e, speeds, api.OK)
			n, e := winch.TicksFor(x, distance)
			want(t, "TicksFor", n, e, len(speeds), api.OK)
		}
		n, e := winch.TicksFor(x, len(best))
		if e != api.OK || n < 8 {
			t.Errorf("TicksFor the least distance that 7 ticks do not reach: %d, error %d", n, e)
		}
	}
}

func randomLimits(r *rand.Rand) api.WinchLimits {
	if r.IntN(2) == 0 {
		return api.WinchLimits{Speed: between(r, 1, 9), Step: between(r, 1, 5)}
	}
	return api.WinchLimits{Speed: between(r, 1, 100), Step: between(r, 1, 100)}
}

// farthest is the greatest distance of so many ticks: speeds up as fast as possible from both ends.
func farthest(x api.WinchLimits, ticks int) int {
	speeds := make([]int, ticks)
	for i := range speeds {
		speeds[i] = x.Speed
	}
	for i, before := 0, 0; i < ticks; i++ {
		speeds[i] = min(speeds[i], before+x.Step)
		before = speeds[i]
	}
	for i, after := ticks-1, 0; i >= 0; i-- {
		speeds[i] = min(speeds[i], after+x.Step)
		after = speeds[i]
	}
	return sum(speeds)
}

func TestProfilesAreAccepted(t *testing.T) {
	r := newRandom()
	for range 2000 {
		x, distance := randomLimits(r), between(r, 0, 10000)
		if r.IntN(2) == 0 {
			distance = between(r, 0, 100)
		}
		ticks, e := winch.TicksFor(x, distance)
		if e == api.ErrLarge {
			if farthest(x, 200) >= distance {
				t.Errorf("TicksFor %v, %d: error %d, but 200 ticks go so far", x, distance, e)
			}
			continue
		}
		l, e := winch.ProfileFor(x, distance)
		want(t, "ticks of ProfileFor", len(l), e, ticks, api.OK)
		n, e := winch.CheckProfile(x, l)
		want(t, "CheckProfile of ProfileFor", n, e, distance, api.OK)
		if ticks > 0 && farthest(x, ticks-1) >= distance {
			t.Errorf("TicksFor %v, %d: %d, but one less goes so far", x, distance, ticks)
		}
	}
}

func TestFartherAndFaster(t *testing.T) {
	r := newRandom()
	ticksFor := func(x api.WinchLimits, distance int) int {
		n, e := winch.TicksFor(x, distance)
		if e == api.ErrLarge {
			return api.MaxWinchTicks + 1
		}
		return n
	}
	for range 2000 {
		x, distance := randomLimits(r), between(r, 0, 9000)
		n := ticksFor(x, distance)
		if far := ticksFor(x, distance+between(r, 1, 1000)); far < n {
			t.Errorf("%v, %d: a greater distance takes %d ticks, less than %d", x, distance, far, n)
		}
		faster := api.WinchLimits{Speed: min(100, x.Speed+r.IntN(3)), Step: min(100, x.Step+r.IntN(3))}
		if fast := ticksFor(faster, distance); fast > n {
			t.Errorf("%v, %d: greater limits take %d ticks, more than %d", x, distance, fast, n)
		}
	}
}
