package bus_test

import (
	"fmt"
	"math"
	"slices"
	"testing"

	"moonpool/api"
	"moonpool/bus"
)

// P7.7, P7.14

func TestSilentIn(t *testing.T) {
	const last = 1000000000000
	for _, c := range []struct {
		heard   []int
		span    api.Range
		timeout int
		silent  []api.Range
	}{
		{[]int{3, 10, 12}, spanOf(0, 20), 4, []api.Range{spanOf(0, 2), spanOf(8, 9), spanOf(17, 20)}},
		{nil, spanOf(5, 9), 4, []api.Range{spanOf(5, 9)}},
		{nil, spanOf(0, last), last, []api.Range{spanOf(0, last)}},
		{[]int{0}, spanOf(0, 0), 0, nil},
		{[]int{1}, spanOf(0, 0), 9, []api.Range{spanOf(0, 0)}},
		{[]int{0}, spanOf(0, last), last, nil},
		{[]int{0}, spanOf(0, last), last - 1, []api.Range{spanOf(last, last)}},
		{[]int{last}, spanOf(0, last), last, []api.Range{spanOf(0, last-1)}},
		{[]int{4}, spanOf(5, 9), 0, []api.Range{spanOf(5, 9)}},
		{[]int{4}, spanOf(5, 9), 1, []api.Range{spanOf(6, 9)}},
		{[]int{4}, spanOf(5, 9), 4, []api.Range{spanOf(9, 9)}},
		{[]int{4}, spanOf(5, 9), 5, nil},
		{[]int{5, 7, 9}, spanOf(5, 9), 0, []api.Range{spanOf(6, 6), spanOf(8, 8)}},
		{[]int{5, 7, 9}, spanOf(5, 9), 1, nil},
		{[]int{10, 20}, spanOf(5, 9), 3, []api.Range{spanOf(5, 9)}},
		{[]int{0, 1, 2}, spanOf(5, 9), 2, []api.Range{spanOf(5, 9)}},
		{[]int{6, 7}, spanOf(5, 9), 0, []api.Range{spanOf(5, 5), spanOf(8, 9)}},
		{[]int{5, 10}, spanOf(5, 9), 2, []api.Range{spanOf(8, 9)}},
		{[]int{2, 9}, spanOf(0, 20), 6, []api.Range{spanOf(0, 1), spanOf(16, 20)}},
		{[]int{2, 10}, spanOf(0, 20), 6, []api.Range{spanOf(0, 1), spanOf(9, 9), spanOf(17, 20)}},
	} {
		l, e := bus.SilentIn(c.heard, c.span, c.timeout)
		want(t, fmt.Sprint("SilentIn ", c.heard, c.span, c.timeout), l, e, c.silent, api.OK)
	}
}

func TestErrorsOfWatchdogs(t *testing.T) {
	const most = 1000000000000
	span := spanOf(0, 20)
	for _, c := range []struct {
		name    string
		heard   []int
		span    api.Range
		timeout int
		err     api.Errno
	}{
		{"60 times", upTo(0, 59), span, 4, api.OK},
		{"the greatest ones", []int{0, most}, spanOf(most, most), most, api.OK},
		{"61 times", upTo(0, 60), span, 4, api.ErrLarge},
		{"61 times before their errors", make([]int, 61), spanOf(-1, 0), 4, api.ErrLarge},
		{"heard at -1", []int{-1, 3}, span, 4, api.ErrRange},
		{"heard too late", []int{3, most + 1}, span, 4, api.ErrRange},
		{"heard at the least int", []int{math.MinInt}, span, 4, api.ErrRange},
		{"heard at the greatest int", []int{math.MaxInt}, span, 4, api.ErrRange},
		{"heard twice at a tick", []int{3, 3}, span, 4, api.ErrOrder},
		{"heard in the wrong order", []int{0, 5, 3}, span, 4, api.ErrOrder},
		{"range before order in one tick", []int{5, -1}, span, 4, api.ErrRange},
		{"order before range in the next tick", []int{5, 3, -1}, span, 4, api.ErrOrder},
		{"order before the span", []int{5, 3}, spanOf(-1, 0), 4, api.ErrOrder},
		{"Lo of -1", nil, spanOf(-1, 0), 4, api.ErrRange},
		{"Lo too great", nil, spanOf(most+1, most), 4, api.ErrRange},
		{"Hi too great", nil, spanOf(0, most+1), 4, api.ErrRange},
		{"Hi of -1", nil, spanOf(0, -1), 4, api.ErrRange},
		{"the least span", nil, spanOf(math.MinInt, math.MaxInt), 4, api.ErrRange},
		{"a span in the wrong order", nil, spanOf(5, 4), 4, api.ErrOrder},
		{"the order of the span before the timeout", nil, spanOf(5, 4), -1, api.ErrOrder},
		{"a timeout of -1", nil, span, -1, api.ErrRange},
		{"a timeout that is too great", nil, span, most + 1, api.ErrRange},
		{"the greatest timeout", nil, span, math.MaxInt, api.ErrRange},
		{"the least timeout", nil, span, math.MinInt, api.ErrRange},
	} {
		l, e := bus.SilentIn(c.heard, c.span, c.timeout)
		if c.err != api.OK && len(l) > 0 || e != c.err {
			t.Errorf("SilentIn: %s: %v, error %d, want the error %d", c.name, l, e, c.err)
		}
	}
}

// silentOf are the largest ranges of ticks that are silent, found tick by tick.
func silentOf(heard []int, span api.Range, timeout int) []api.Range {
	var silent []api.Range
	for tick := span.Lo; tick <= span.Hi; tick++ {
		if slices.ContainsFunc(heard, func(at int) bool { return tick-timeout <= at && at <= tick }) {
			continue
		}
		if k := len(silent) - 1; k >= 0 && silent[k].Hi == tick-1 {
			silent[k].Hi = tick
			continue
		}
		silent = append(silent, spanOf(tick, tick))
	}
	return silent
}

func TestSilenceTickByTick(t *testing.T) {
	r := newRandom()
	for range 3000 {
		heard := randomSet(r, between(r, 0, 60), 0)
		span := spanOf(r.IntN(70), 70+r.IntN(30))
		if r.IntN(2) == 0 {
			span = spanOf(r.IntN(20), 20+r.IntN(20))
		}
		timeout := r.IntN(between(r, 1, 40))
		l, e := bus.SilentIn(heard, span, timeout)
		want(t, fmt.Sprint("SilentIn ", heard, span, timeout), l, e, silentOf(heard, span, timeout), api.OK)
		longer, e := bus.SilentIn(heard, span, timeout+between(r, 1, 5))
		for _, x := range longer {
			if !slices.ContainsFunc(l, func(y api.Range) bool { return y.Lo <= x.Lo && x.Hi <= y.Hi }) {
				t.Errorf("%v in %v: with a longer timeout than %d %v is silent, error %d", heard, span, timeout, x, e)
			}
		}
	}
}
