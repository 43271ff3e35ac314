package dive_test

import (
	"fmt"
	"math"
	"math/rand/v2"
	"slices"
	"testing"

	"moonpool/api"
	"moonpool/dive"
)

// P8.6, P8.13

func rotaOf(span api.Range, pilots, work, rest int) api.DiveRota {
	return api.DiveRota{Span: span, Pilots: pilots, Work: work, Rest: rest}
}

func TestWatchesFor(t *testing.T) {
	for _, c := range []struct {
		name    string
		rota    api.DiveRota
		watches []api.DiveWatch
		err     api.Errno
	}{
		{"example 8", exampleRota(), exampleWatches(), api.OK},
		{"example 8, with more rest", rotaOf(spanOf(0, 99), 2, 40, 41), nil, api.ErrRefused},
		{"exactly enough rest", rotaOf(spanOf(0, 99), 2, 40, 40), exampleWatches(), api.OK},
		{"a single watch", rotaOf(spanOf(5, 9), 1, 5, 10000), []api.DiveWatch{watchOf(0, 5, 9)}, api.OK},
		{"a single watch that is shorter", rotaOf(spanOf(5, 9), 3, 10000, 10000), []api.DiveWatch{watchOf(0, 5, 9)}, api.OK},
		{"a single tick", rotaOf(spanOf(100000, 100000), 6, 1, 10000), []api.DiveWatch{watchOf(0, 100000, 100000)}, api.OK},
		{"a single pilot, without rest", rotaOf(spanOf(1, 5), 1, 2, 0), []api.DiveWatch{watchOf(0, 1, 2), watchOf(0, 3, 4), watchOf(0, 5, 5)}, api.OK},
		{"a single pilot, with rest", rotaOf(spanOf(1, 5), 1, 2, 1), nil, api.ErrRefused},
		{"a last watch of one tick", rotaOf(spanOf(1, 7), 3, 2, 4), []api.DiveWatch{watchOf(0, 1, 2), watchOf(1, 3, 4), watchOf(2, 5, 6), watchOf(0, 7, 7)}, api.OK},
		{"one watch for each pilot", rotaOf(spanOf(1, 6), 3, 2, 10000), []api.DiveWatch{watchOf(0, 1, 2), watchOf(1, 3, 4), watchOf(2, 5, 6)}, api.OK},
		{"41 watches", rotaOf(spanOf(0, 40), 1, 1, 0), nil, api.ErrLarge},
		{"41 watches, the last one of which is shorter", rotaOf(spanOf(0, 400), 6, 10, 0), nil, api.ErrLarge},
		{"41 watches without rest", rotaOf(spanOf(0, 40), 1, 1, 1), nil, api.ErrLarge},
		{"very many watches", rotaOf(spanOf(0, 100000), 6, 1, 0), nil, api.ErrLarge},
		{"40 watches without rest", rotaOf(spanOf(0, 399), 6, 10, 51), nil, api.ErrRefused},
	} {
		l, e := dive.WatchesFor(c.rota)
		want(t, "WatchesFor: "+c.name, l, e, c.watches, c.err)
	}
	l, e := dive.WatchesFor(rotaOf(spanOf(0, 399), 6, 10, 50))
	want(t, "WatchesFor: 40 of them", len(l), e, 40, api.OK)
	l, e = dive.WatchesFor(rotaOf(spanOf(0, 100000), 6, 10000, 10000))
	want(t, "WatchesFor: the longest ones", len(l), e, 11, api.OK)
}

func TestBadRotas(t *testing.T) {
	span := spanOf(0, 99)
	bad := []struct {
		name string
		rota api.DiveRota
		err  api.Errno
	}{
		{"a span in the wrong order", rotaOf(spanOf(9, 8), 2, 40, 30), api.ErrOrder},
		{"Pilots before the order", rotaOf(spanOf(9, 8), 0, 40, 30), api.ErrRange},
		{"Rest before the order", rotaOf(spanOf(9, 8), 2, 40, 10001), api.ErrRange},
		{"Span.Lo before the order", rotaOf(spanOf(100001, 8), 2, 40, 30), api.ErrRange},
		{"no pilots", rotaOf(span, 0, 40, 30), api.ErrRange},
		{"7 pilots", rotaOf(span, 7, 40, 30), api.ErrRange},
		{"no work", rotaOf(span, 2, 0, 30), api.ErrRange},
		{"too much work", rotaOf(span, 2, 10001, 30), api.ErrRange},
		{"too much rest", rotaOf(span, 2, 40, 10001), api.ErrRange},
		{"too late", rotaOf(spanOf(0, 100001), 2, 10000, 30), api.ErrRange},
	}
	for _, n := range []int{-1, math.MaxInt, math.MinInt} {
		for _, x := range []api.DiveRota{rotaOf(spanOf(n, 99), 2, 40, 30), rotaOf(spanOf(0, n), 2, 40, 30), rotaOf(span, n, 40, 30), rotaOf(span, 2, n, 30), rotaOf(span, 2, 40, n)} {
			bad = append(bad, struct {
				name string
				rota api.DiveRota
				err  api.Errno
			}{fmt.Sprint(x), x, api.ErrRange})
		}
	}
	for _, c := range bad {
		l, e := dive.WatchesFor(c.rota)
		want(t, "WatchesFor: "+c.name, l, e, none, c.err)
		for _, l := range [][]api.DiveWatch{nil, exampleWatches(), make([]api.DiveWatch, 41)} {
			i, e := dive.CheckWatches(c.rota, l)
			want(t, "CheckWatches: "+c.name, i, e, 0, c.err)
		}
	}
}

func TestCheckWatches(t *testing.T) {
	with := func(i int, w api.DiveWatch) []api.DiveWatch {
		l := exampleWatches()
		l[i] = w
		return l
	}
	ticks := make([]api.DiveWatch, 41)
	for i := range ticks {
		ticks[i] = watchOf(i%2, i, i)
	}
	for _, c := range []struct {
		name    string
		watches []api.DiveWatch
		index   int
		err     api.Errno
	}{
		{"the example", exampleWatches(), 0, api.OK},
		{"another pilot first", []api.DiveWatch{watchOf(1, 0, 39), watchOf(0, 40, 79), watchOf(1, 80, 99)}, 0, api.OK},
		{"shorter watches", []api.DiveWatch{watchOf(0, 0, 19), watchOf(1, 20, 49), watchOf(0, 50, 79), watchOf(1, 80, 99)}, 0, api.OK},
		{"41 watches", ticks, 0, api.ErrLarge},
		{"41 watches without pilots", slices.Repeat([]api.DiveWatch{watchOf(-1, 0, 0)}, 41), 0, api.ErrLarge},
		{"40 watches", ticks[:40], 2, api.ErrRefused},
		{"no such pilot", with(2, watchOf(2, 80, 99)), 2, api.ErrMissing},
		{"the pilot -1", with(0, watchOf(-1, 0, 39)), 0, api.ErrMissing},
		{"the greatest pilot", with(1, watchOf(math.MaxInt, 0, 39)), 1, api.ErrMissing},
		{"the least pilot", with(1, watchOf(math.MinInt, 41, 79)), 1, api.ErrMissing},
		{"too late at first", with(0, watchOf(0, 1, 39)), 0, api.ErrClash},
		{"too early at first", with(0, watchOf(0, -1, 39)), 0, api.ErrClash},
		{"a gap", with(1, watchOf(1, 41, 79)), 1, api.ErrClash},
		{"two at a time", with(1, watchOf(1, 39, 79)), 1, api.ErrClash},
		{"a gap before the range", with(1, watchOf(1, 41, 40)), 1, api.ErrClash},
		{"the least tick", with(1, watchOf(1, math.MinInt, math.MaxInt)), 1, api.ErrClash},
		{"the wrong order", with(1, watchOf(1, 40, 39)), 1, api.ErrRange},
		{"after the span", with(2, watchOf(0, 80, 100)), 2, api.ErrRange},
		{"the greatest tick", with(1, watchOf(1, 40, math.MaxInt)), 1, api.ErrRange},
		{"the least end", with(1, watchOf(1, 40, math.MinInt)), 1, api.ErrRange},
		{"after the span before too long", with(1, watchOf(1, 40, 100)), 1, api.ErrRange},
		{"too long", with(1, watchOf(1, 40, 80)), 1, api.ErrBreak},
		{"too long before the rest", with(1, watchOf(0, 40, 80)), 1, api.ErrBreak},
		{"without rest", with(1, watchOf(0, 40, 79)), 1, api.ErrRefused},
		{"exactly enough rest", []api.DiveWatch{watchOf(0, 0, 39), watchOf(1, 40, 69), watchOf(0, 70, 99)}, 0, api.OK},
		{"too little rest", []api.DiveWatch{watchOf(0, 0, 39), watchOf(1, 40, 68), watchOf(0, 69, 99)}, 2, api.ErrRefused},
		{"too little rest since the last of more", []api.DiveWatch{watchOf(0, 0, 9), watchOf(1, 10, 39), watchOf(0, 40, 49), watchOf(1, 50, 89)}, 3, api.ErrRefused},
		{"the rest of one before the gap of the next one", []api.DiveWatch{watchOf(0, 0, 39), watchOf(0, 40, 79), watchOf(1, 99, 99)}, 1, api.ErrRefused},
		{"no watches", nil, 0, api.ErrOpen},
		{"an end too soon", exampleWatches()[:2], 0, api.ErrOpen},
		{"the last end too soon", with(2, watchOf(0, 80, 98)), 0, api.ErrOpen},
	} {
		i, e := dive.CheckWatches(exampleRota(), c.watches)
		want(t, "CheckWatches: "+c.name, i, e, c.index, c.err)
	}
	i, e := dive.CheckWatches(rotaOf(spanOf(0, 0), 1, 10000, 10000), []api.DiveWatch{watchOf(0, 0, 0)})
	want(t, "CheckWatches of one tick, at the beginning, with much rest", i, e, 0, api.OK)
}

func randomRota(r *rand.Rand) api.DiveRota {
	lo := r.IntN(30)
	return rotaOf(spanOf(lo, lo+r.IntN(120)), between(r, 1, 6), between(r, 1, 30), r.IntN(60)*r.IntN(2))
}

// restsOf are how many ticks lie between two watches of a pilot, at the least, tick by tick (or 1000000).
func restsOf(x api.DiveRota, keeper []int) int {
	least := 1000000
	for pilot := range x.Pilots {
		rest := -1
		for at, who := range keeper {
			switch {
			case who != pilot && rest >= 0:
				rest++
			case who == pilot && rest >= 0 && at/x.Work != (at-1)/x.Work:
				least = min(least, rest)
				rest = 0
			case who == pilot:
				rest = 0
			}
		}
	}
	return least
}

// TestWatchesTickByTick asks for each tick who keeps the watch.
func TestWatchesTickByTick(t *testing.T) {
	r := newRandom()
	seen := map[api.Errno]int{}
	for range 3000 {
		x := randomRota(r)
		var keeper []int
		for at := range x.Span.Hi - x.Span.Lo + 1 {
			keeper = append(keeper, at/x.Work%x.Pilots)
		}
		err := api.OK
		switch {
		case (len(keeper)-1)/x.Work+1 > 40:
			err = api.ErrLarge
		case restsOf(x, keeper) < x.Rest:
			err = api.ErrRefused
		}
		l, e := dive.WatchesFor(x)
		var kept []int
		for _, w := range l {
			for range w.Ticks.Hi - w.Ticks.Lo + 1 {
				kept = append(kept, w.Pilot)
			}
		}
		if err != api.OK {
			keeper = nil
		}
		want(t, fmt.Sprint("WatchesFor ", x), kept, e, keeper, err)
		seen[e]++
	}
	for _, e := range []api.Errno{api.OK, api.ErrLarge, api.ErrRefused} {
		if seen[e] < 100 {
			t.Errorf("too few rotas are tested: %v", seen)
		}
	}
}

// TestFurtherWatches is whether watches are accepted, and whether there still are some with more pilots, or less rest.
func TestFurtherWatches(t *testing.T) {
	r := newRandom()
	for range 2000 {
		x := randomRota(r)
		l, e := dive.WatchesFor(x)
		if e != api.OK {
			continue
		}
		i, e := dive.CheckWatches(x, l)
		want(t, fmt.Sprint("CheckWatches ", x, l), i, e, 0, api.OK)
		x.Pilots = between(r, x.Pilots, 6)
		x.Rest = r.IntN(x.Rest + 1)
		_, e = dive.WatchesFor(x)
		want(t, fmt.Sprint("WatchesFor with more pilots, or less rest ", x), nil, e, nil, api.OK)
	}
}
