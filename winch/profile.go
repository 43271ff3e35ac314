package winch

import (
	"moonpool/api"
	"moonpool/rules"
)

// limits are given ones of profiles, with what can be reached within them.
type limits struct{ api.WinchLimits }

// CheckProfile is in P2.2.
func CheckProfile(x api.WinchLimits, speeds []int) (int, api.Errno) {
	if e := limitsError(x); e != api.OK {
		return 0, e
	}
	if len(speeds) > api.MaxWinchTicks {
		return 0, api.ErrLarge
	}
	before, distance := 0, 0
	for i, speed := range speeds {
		if e := rules.LimitError(speed, 0, x.Speed); e != api.OK {
			return i, e
		}
		if !rules.Within(speed-before, x.Step) {
			return i, api.ErrBreak
		}
		before = speed
		distance += speed
	}
	if before > x.Step {
		return len(speeds) - 1, api.ErrOpen
	}
	return distance, api.OK
}

// TicksFor is in P2.2. Of a profile that is not at rest a greatest speed can always be one less:
// so many ticks reach each distance up to the greatest one.
func TicksFor(x api.WinchLimits, distance int) (int, api.Errno) {
	e := rules.FirstError(limitsError(x), rules.LimitError(distance, 0, api.MaxWinchDistance))
	if e != api.OK {
		return 0, e
	}
	for ticks := range api.MaxWinchTicks + 1 {
		if (limits{x}).farthest(ticks) >= distance {
			return ticks, api.OK
		}
	}
	return 0, api.ErrLarge
}

// ProfileFor is in P2.2.
func ProfileFor(x api.WinchLimits, distance int) ([]int, api.Errno) {
	ticks, e := TicksFor(x, distance)
	if e != api.OK {
		return nil, e
	}
	speeds := make([]int, ticks)
	speed := 0
	for i := range ticks {
		speed = limits{x}.fastest(speed, distance)
		speeds[i] = speed
		distance -= speed
	}
	return speeds, api.OK
}

func limitsError(x api.WinchLimits) api.Errno {
	return rules.FirstError(
		rules.LimitError(x.Speed, 1, api.MaxWinchSpeed),
		rules.LimitError(x.Step, 1, api.MaxWinchSpeed),
	)
}

// farthest is the greatest distance of a profile of so many ticks.
func (x limits) farthest(ticks int) int {
	distance := 0
	for i := range ticks {
		distance += min(x.Speed, x.Step*(i+1), x.Step*(ticks-i))
	}
	return distance
}

// fastest is the greatest speed after another one that still rests within the distance.
// It rests within the ticks, too: whatever does not would exceed each distance that they reach.
// And the distance is reached exactly: the speed is as great as the limits permit,
// or the shortest way to rest from one more would exceed the distance, and that way without the one can be gone.
func (x limits) fastest(before, distance int) int {
	speed := min(x.Speed, before+x.Step)
	for speed+x.stopping(speed) > distance {
		speed--
	}
	return speed
}

// stopping is the least distance from a speed to rest, without its own tick.
func (x limits) stopping(speed int) int {
	distance := 0
	for s := speed - x.Step; s > 0; s -= x.Step {
		distance += s
	}
	return distance
}
