package thrust_test

import (
	"testing"

	"moonpool/api"
	"moonpool/thrust"
)

// P3.6, P3.12

func TestWholeNear(t *testing.T) {
	thruster := func(low, high, dead int) []api.Thruster {
		return []api.Thruster{{Direction: [2]int{1, 0}, Limit: api.Range{Lo: low, Hi: high}, Dead: dead}}
	}
	for _, c := range []struct {
		name      string
		thrusters []api.Thruster
		num, den  int
		whole     int
	}{
		{"a whole number", thruster(-10, 10, 0), 7, 1, 7},
		{"a whole number below 0", thruster(-10, 10, 0), -7, 1, -7},
		{"0", thruster(-10, 10, 5), 0, 1, 0},
		{"a half", thruster(-10, 10, 0), 5, 2, 2},
		{"a half below 0", thruster(-10, 10, 0), -5, 2, -2},
		{"one half", thruster(-10, 10, 0), 1, 2, 0},
		{"one half below 0", thruster(-10, 10, 0), -1, 2, 0},
		{"three halves", thruster(-10, 10, 0), 3, 2, 1},
		{"less than a half", thruster(-10, 10, 0), 7, 3, 2},
		{"more than a half", thruster(-10, 10, 0), 8, 3, 3},
		{"less than a half below 0", thruster(-10, 10, 0), -7, 3, -2},
		{"more than a half below 0", thruster(-10, 10, 0), -8, 3, -3},
		{"just more than a half", thruster(-10, 10, 0), 500000001, 1000000000, 1},
		{"just less than a half", thruster(-10, 10, 0), 499999999, 1000000000, 0},
		{"just more than a half below 0", thruster(-10, 10, 0), -500000001, 1000000000, -1},
		{"just more than a half, odd", thruster(-10, 10, 0), 499999998, 999999995, 1},
		{"above Hi", thruster(-10, 10, 0), 11, 1, 10},
		{"below Lo", thruster(-10, 10, 0), -11, 1, -10},
		{"the greatest part", thruster(-10, 10, 0), 1000000000000, 1, 10},
		{"the least part", thruster(-10, 10, 0), -1000000000000, 999999999, -10},
		{"limits from 0", thruster(0, 10, 0), -3, 1, 0},
		{"limits to 0", thruster(-10, 0, 0), 3, 1, 0},
		{"limits of 0 to 0", thruster(0, 0, 3), 5, 1, 0},
		{"Dead 1", thruster(-10, 10, 1), 1, 1, 1},
		{"Dead 2 and 1", thruster(-10, 10, 2), 1, 1, 2},
		{"Dead 2 and -1", thruster(-10, 10, 2), -1, 1, -2},
		{"Dead 3 and 1", thruster(-10, 10, 3), 1, 1, 0},
		{"Dead 3 and -1", thruster(-10, 10, 3), -1, 1, 0},
		{"Dead 3 and 2", thruster(-10, 10, 3), 2, 1, 3},
		{"Dead 3 and 3", thruster(-10, 10, 3), 3, 1, 3},
		{"Dead 3 and -3", thruster(-10, 10, 3), -3, 1, -3},
		{"Dead 3 and 4", thruster(-10, 10, 3), 4, 1, 4},
		{"rounded before Dead", thruster(-10, 10, 3), 3, 2, 0},
		{"Dead is Hi", thruster(-10, 10, 10), 5, 1, 10},
		{"Dead is -Lo", thruster(-10, 9, 10), -5, 1, -10},
		{"Dead is beyond Hi", thruster(-10, 9, 10), 9, 1, 0},
		{"Dead is beyond Lo", thruster(-9, 10, 10), -9, 1, 0},
		{"moved into limits before Dead", thruster(-10, 4, 5), 80, 1, 0},
		{"moved into limits, then to 0", thruster(-10, 2, 5), 80, 1, 0},
		{"moved into limits, then to -Dead", thruster(-5, 10, 5), -80, 1, -5},
	} {
		l, e := thrust.WholeNear(c.thrusters, api.ThrustSetting{Den: c.den, Parts: []int{c.num}})
		want(t, c.name, l, e, []int{c.whole}, api.OK)
	}
	l, e := thrust.WholeNear(exampleThrusters(), api.ThrustSetting{Den: 2, Parts: []int{7, -1, 3}})
	want(t, "example", l, e, []int{3, 0, 2}, api.OK)
}

func TestErrorsOfWholeNear(t *testing.T) {
	for _, bad := range allBadThrusters() {
		for _, s := range []api.ThrustSetting{exampleLeast(), {}, {Den: 1}} {
			l, e := thrust.WholeNear(bad.thrusters, s)
			want(t, bad.name, l, e, []int(nil), bad.err)
		}
	}
	for _, bad := range badSettings() {
		l, e := thrust.WholeNear(exampleThrusters(), bad.setting)
		want(t, bad.name, l, e, []int(nil), bad.err)
	}
}

// wholeNear is the whole number near a fraction, found by trying all whole numbers of limits.
func wholeNear(x api.Thruster, num, den int) int {
	size := func(n int) int { return max(n, -n) }
	near := x.Limit.Lo
	for n := x.Limit.Lo; n <= x.Limit.Hi; n++ {
		less := size(n*den-num) - size(near*den-num)
		if less < 0 || less == 0 && size(n) < size(near) {
			near = n
		}
	}
	if size(near) >= x.Dead {
		return near
	}
	for _, dead := range []int{x.Dead, -x.Dead} {
		if near*dead > 0 && 2*size(near) >= x.Dead && x.Limit.Lo <= dead && dead <= x.Limit.Hi {
			return dead
		}
	}
	return 0
}

func TestWholeNearByItsDefinition(t *testing.T) {
	r := newRandom()
	for range 2000 {
		l := randomThrusters(r, between(r, 1, 5))
		s := fractionsIn(r, l, api.ThrustSetting{Den: between(r, 1, 9), Parts: make([]int, len(l))})
		if r.IntN(2) == 0 {
			s.Parts[r.IntN(len(l))] += between(r, -20, 20) * s.Den
		}
		whole := make([]int, len(l))
		for i, x := range l {
			whole[i] = wholeNear(x, s.Parts[i], s.Den)
		}
		near, e := thrust.WholeNear(l, s)
		want(t, "WholeNear", near, e, whole, api.OK)
		i, e := thrust.CheckSetting(l, near)
		want(t, "CheckSetting of WholeNear", i, e, 0, api.OK)
		again, e := thrust.WholeNear(l, api.ThrustSetting{Den: 1, Parts: near})
		want(t, "WholeNear of a whole setting that is accepted", again, e, near, api.OK)
	}
}

func TestAcceptedSettingsAreNearThemselves(t *testing.T) {
	r := newRandom()
	accepted := 0
	for range 2000 {
		l := randomThrusters(r, between(r, 1, 5))
		setting := settingIn(r, l)
		near, f := thrust.WholeNear(l, api.ThrustSetting{Den: 1, Parts: setting})
		if _, e := thrust.CheckSetting(l, setting); e != api.OK {
			continue
		}
		want(t, "WholeNear", near, f, setting, api.OK)
		accepted++
	}
	if accepted < 200 {
		t.Errorf("%d accepted settings alone were tested", accepted)
	}
}
