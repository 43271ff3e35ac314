package winch_test

import (
	"math"
	"math/rand/v2"
	"slices"
	"testing"

	"moonpool/api"
	"moonpool/winch"
)

// P2.5, P2.12

func exampleForecasts() []api.Range {
	return []api.Range{{Lo: 5, Hi: 9}, {Lo: -2, Hi: 3}, {Lo: 0, Hi: 4}, {Lo: -1, Hi: 1}, {Lo: 3, Hi: 12}, {Lo: 0, Hi: 1}}
}

func exampleCalm() api.WinchCalm { return api.WinchCalm{Limit: 4, Length: 2} }

func TestWindows(t *testing.T) {
	f := exampleForecasts()
	still := make([]api.Range, 60)
	for _, c := range []struct {
		name              string
		forecasts         []api.Range
		calm              api.WinchCalm
		windows, possible []api.Range
	}{
		{"example", f, exampleCalm(), []api.Range{{Lo: 1, Hi: 3}}, []api.Range{{Lo: 1, Hi: 5}}},
		{"single ticks", f, api.WinchCalm{Limit: 4, Length: 1}, []api.Range{{Lo: 1, Hi: 3}, {Lo: 5, Hi: 5}}, []api.Range{{Lo: 1, Hi: 5}}},
		{"a greater limit", f, api.WinchCalm{Limit: 9, Length: 2}, []api.Range{{Lo: 0, Hi: 3}}, []api.Range{{Lo: 0, Hi: 5}}},
		{"the whole", f, api.WinchCalm{Limit: 12, Length: 6}, []api.Range{{Lo: 0, Hi: 5}}, []api.Range{{Lo: 0, Hi: 5}}},
		{"a length of all but one", f, api.WinchCalm{Limit: 4, Length: 5}, nil, []api.Range{{Lo: 1, Hi: 5}}},
		{"a length greater than the forecasts", f, api.WinchCalm{Limit: 1000, Length: 7}, nil, nil},
		{"no forecasts", nil, exampleCalm(), nil, nil},
		{"the limit 0", []api.Range{{}, {Lo: 0, Hi: 1}, {}, {}}, api.WinchCalm{Limit: 0, Length: 1}, []api.Range{{Lo: 0, Hi: 0}, {Lo: 2, Hi: 3}}, []api.Range{{Lo: 0, Hi: 3}}},
		{"many forecasts", still, api.WinchCalm{Limit: 0, Length: 60}, []api.Range{{Lo: 0, Hi: 59}}, []api.Range{{Lo: 0, Hi: 59}}},
		{"heights below 0", []api.Range{{Lo: -9, Hi: -5}, {Lo: -9, Hi: -4}, {Lo: -4, Hi: -4}, {Lo: -5, Hi: 5}}, api.WinchCalm{Limit: 4, Length: 1}, []api.Range{{Lo: 2, Hi: 2}}, []api.Range{{Lo: 1, Hi: 3}}},
		{"the greatest heights", []api.Range{{Lo: -1000, Hi: 1000}}, api.WinchCalm{Limit: 1000, Length: 1}, []api.Range{{Lo: 0, Hi: 0}}, []api.Range{{Lo: 0, Hi: 0}}},
	} {
		w, e := winch.WindowsIn(c.forecasts, c.calm)
		want(t, "WindowsIn: "+c.name, w, e, c.windows, api.OK)
		w, e = winch.PossibleIn(c.forecasts, c.calm)
		want(t, "PossibleIn: "+c.name, w, e, c.possible, api.OK)
	}
}

func TestFirstFrom(t *testing.T) {
	f := exampleForecasts()
	for _, c := range []struct {
		calm        api.WinchCalm
		tick, first int
		err         api.Errno
	}{
		{exampleCalm(), 0, 1, api.OK},
		{exampleCalm(), 1, 1, api.OK},
		{exampleCalm(), 2, 2, api.OK},
		{exampleCalm(), 3, 0, api.ErrNone},
		{exampleCalm(), 60, 0, api.ErrNone},
		{api.WinchCalm{Limit: 4, Length: 1}, 4, 5, api.OK},
		{api.WinchCalm{Limit: 4, Length: 1}, 5, 5, api.OK},
		{api.WinchCalm{Limit: 4, Length: 1}, 6, 0, api.ErrNone},
		{api.WinchCalm{Limit: 12, Length: 6}, 0, 0, api.OK},
		{api.WinchCalm{Limit: 12, Length: 6}, 1, 0, api.ErrNone},
		{api.WinchCalm{Limit: 1000, Length: 60}, 0, 0, api.ErrNone},
		{exampleCalm(), -1, 0, api.ErrRange},
		{exampleCalm(), 61, 0, api.ErrRange},
		{exampleCalm(), math.MaxInt, 0, api.ErrRange},
		{exampleCalm(), math.MinInt, 0, api.ErrRange},
	} {
		n, e := winch.FirstFrom(f, c.calm, c.tick)
		want(t, "FirstFrom", n, e, c.first, c.err)
	}
	n, e := winch.FirstFrom(nil, exampleCalm(), 0)
	want(t, "FirstFrom no forecasts", n, e, 0, api.ErrNone)
}

func TestErrorsOfForecasts(t *testing.T) {
	ok, calm := exampleForecasts(), exampleCalm()
	for _, c := range []struct {
		name      string
		forecasts []api.Range
		calm      api.WinchCalm
		err       api.Errno
	}{
		{"too many", make([]api.Range, 61), calm, api.ErrLarge},
		{"too many before their errors", append(make([]api.Range, 60), api.Range{Lo: 2, Hi: 1}), calm, api.ErrLarge},
		{"Hi too great", []api.Range{{}, {Lo: 0, Hi: 1001}}, calm, api.ErrRange},
		{"Lo too small", []api.Range{{Lo: -1001, Hi: 0}}, calm, api.ErrRange},
		{"the least int", []api.Range{{Lo: math.MinInt, Hi: 0}}, calm, api.ErrRange},
		{"order", []api.Range{{}, {Lo: 2, Hi: 1}}, calm, api.ErrOrder},
		{"range before order", []api.Range{{Lo: 1001, Hi: 1}}, calm, api.ErrRange},
		{"items in their order", []api.Range{{Lo: 2, Hi: 1}, {Lo: 0, Hi: 1001}}, calm, api.ErrOrder},
		{"order before the calm", []api.Range{{Lo: 2, Hi: 1}}, api.WinchCalm{Limit: -1, Length: 1}, api.ErrOrder},
		{"limit -1", ok, api.WinchCalm{Limit: -1, Length: 1}, api.ErrRange},
		{"limit 1001", ok, api.WinchCalm{Limit: 1001, Length: 1}, api.ErrRange},
		{"limit the least int", ok, api.WinchCalm{Limit: math.MinInt, Length: 1}, api.ErrRange},
		{"length 0", ok, api.WinchCalm{Limit: 4, Length: 0}, api.ErrRange},
		{"length -1", nil, api.WinchCalm{Limit: 4, Length: -1}, api.ErrRange},
		{"length 61", ok, api.WinchCalm{Limit: 4, Length: 61}, api.ErrRange},
	} {
		w, e := winch.WindowsIn(c.forecasts, c.calm)
		want(t, "WindowsIn: "+c.name, w, e, []api.Range(nil), c.err)
		w, e = winch.PossibleIn(c.forecasts, c.calm)
		want(t, "PossibleIn: "+c.name, w, e, []api.Range(nil), c.err)
		for _, tick := range []int{0, -1, 61} {
			n, e := winch.FirstFrom(c.forecasts, c.calm, tick)
			want(t, "FirstFrom: "+c.name, n, e, 0, c.err)
		}
	}
}

func randomForecasts(r *rand.Rand) []api.Range {
	var l []api.Range
	for range between(r, 0, 14) {
		a, b := between(r, -6, 6), between(r, -6, 6)
		l = append(l, api.Range{Lo: min(a, b), Hi: max(a, b)})
	}
	return l
}

// heightsOf is every height of a forecast.
func heightsOf(f api.Range) []int {
	var l []int
	for h := f.Lo; h <= f.Hi; h++ {
		l = append(l, h)
	}
	return l
}

// largest are the largest ranges of ticks that are all such, of at least length, found among all ranges.
func largest(l []api.Range, length int, such func(f api.Range) bool) []api.Range {
	all := func(from, to int) bool {
		return from >= 0 && to < len(l) && !slices.ContainsFunc(l[from:to+1], func(f api.Range) bool { return !such(f) })
	}
	var found []api.Range
	for from := range l {
		for to := from; to < len(l); to++ {
			if all(from, to) && !all(from-1, to) && !all(from, to+1) && to-from+1 >= length {
				found = append(found, api.Range{Lo: from, Hi: to})
			}
		}
	}
	return found
}

func TestWindowsByTheirDefinition(t *testing.T) {
	r := newRandom()
	for range 3000 {
		l, x := randomForecasts(r), api.WinchCalm{Limit: between(r, 0, 6), Length: between(r, 1, 4)}
		isSmall := func(h int) bool { return h <= x.Limit && -h <= x.Limit }
		isGreat := func(h int) bool { return !isSmall(h) }
		calm := func(f api.Range) bool { return !slices.ContainsFunc(heightsOf(f), isGreat) }
		w, e := winch.WindowsIn(l, x)
		want(t, "WindowsIn", w, e, largest(l, x.Length, calm), api.OK)
		possible, e := winch.PossibleIn(l, x)
		mayBe := func(f api.Range) bool { return slices.ContainsFunc(heightsOf(f), isSmall) }
		want(t, "PossibleIn", possible, e, largest(l, x.Length, mayBe), api.OK)
		tick := between(r, 0, 16)
		first, err := 0, api.ErrNone
		for i := tick; i+x.Length <= len(l) && err != api.OK; i++ {
			if !slices.ContainsFunc(l[i:i+x.Length], func(f api.Range) bool { return !calm(f) }) {
				first, err = i, api.OK
			}
		}
		n, e := winch.FirstFrom(l, x, tick)
		want(t, "FirstFrom", n, e, first, err)
	}
}

// liesInOne is whether a range lies in one of several.
func liesInOne(inner api.Range, outer []api.Range) bool {
	return slices.ContainsFunc(outer, func(o api.Range) bool { return o.Lo <= inner.Lo && inner.Hi <= o.Hi })
}

func TestWindowsLieInWindows(t *testing.T) {
	r := newRandom()
	for range 2000 {
		l, x := randomForecasts(r), api.WinchCalm{Limit: between(r, 0, 6), Length: between(r, 1, 4)}
		windows, _ := winch.WindowsIn(l, x)
		possible, _ := winch.PossibleIn(l, x)
		wider := x
		wider.Limit += between(r, 1, 3)
		greater, _ := winch.WindowsIn(l, wider)
		for _, w := range windows {
			if !liesInOne(w, possible) || !liesInOne(w, greater) {
				t.Errorf("%v, %v: %v lies in none of %v, or in none of %v", l, x, w, possible, greater)
			}
			for _, f := range l[w.Lo : w.Hi+1] {
				if h := between(r, f.Lo, f.Hi); h > x.Limit || -h > x.Limit {
					t.Errorf("%v, %v: the height %d is in the window %v", l, x, h, w)
				}
			}
		}
	}
}
