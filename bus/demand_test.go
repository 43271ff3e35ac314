package bus_test

import (
	"fmt"
	"math"
	"slices"
	"testing"

	"moonpool/api"
	"moonpool/bus"
)

// P7.5, P7.12

func TestDemandIn(t *testing.T) {
	for _, c := range []struct {
		streams       []api.BusStream
		ticks, demand int
	}{
		{lateStreams(), 6, 6},
		{overloadedStreams(), 6, 7},
		{lateStreams(), 0, 0},
		{lateStreams(), 3, 0},
		{lateStreams(), 4, 1},
		{lateStreams(), 5, 1},
		{lateStreams(), 8, 7},
		{lateStreams(), 12, 10},
		{lateStreams(), 17, 11},
		{lateStreams(), 18, 16},
		{exampleStreams(), 12, 10},
		{exampleStreams(), 10000, 2500 + 2*1666 + 3*833},
		{[]api.BusStream{streamOf("a", 1, 1, 20)}, 10000, 200000},
		{[]api.BusStream{streamOf("a", 60, 1, 20)}, 1, 20},
		{[]api.BusStream{streamOf("a", 60, 1, 20)}, 60, 20},
		{[]api.BusStream{streamOf("a", 60, 1, 20)}, 61, 40},
	} {
		n, e := bus.DemandIn(c.streams, c.ticks)
		want(t, fmt.Sprint("DemandIn ", c.streams, c.ticks), n, e, c.demand, api.OK)
	}
	for _, ticks := range []int{-1, 10001, math.MaxInt, math.MinInt} {
		n, e := bus.DemandIn(exampleStreams(), ticks)
		want(t, fmt.Sprint("DemandIn ", ticks), n, e, 0, api.ErrRange)
	}
}

func TestOverloadIn(t *testing.T) {
	for _, c := range []struct {
		name    string
		streams []api.BusStream
		tick    int
		err     api.Errno
	}{
		{"example", exampleStreams(), 0, api.ErrNone},
		{"example 5", lateStreams(), 0, api.ErrNone},
		{"example 5 with a greater length", overloadedStreams(), 6, api.OK},
		{"a length of the period", []api.BusStream{streamOf("a", 20, 20, 20)}, 0, api.ErrNone},
		{"a length above the deadline", []api.BusStream{streamOf("a", 60, 19, 20)}, 19, api.OK},
		{"in the first tick", []api.BusStream{streamOf("a", 60, 60, 1), streamOf("b", 1, 1, 2)}, 1, api.OK},
		{"in the last tick, with a load above 1", fullStreams(), 60, api.OK},
		{"a load of 1", []api.BusStream{streamOf("a", 2, 2, 1), streamOf("b", 2, 2, 1)}, 0, api.ErrNone},
		{"too many periods", wideStreams(), 0, api.ErrLarge},
		{"too many periods, with an overload", append(wideStreams(), streamOf("x", 1, 1, 2)), 0, api.ErrLarge},
		{"a multiple of 4998", []api.BusStream{streamOf("a", 49, 49, 1), streamOf("b", 51, 51, 1), streamOf("c", 2, 2, 1)}, 0, api.ErrNone},
		{"a multiple of 5005", []api.BusStream{streamOf("a", 55, 55, 1), streamOf("b", 35, 35, 1), streamOf("c", 13, 13, 1)}, 0, api.ErrLarge},
	} {
		n, e := bus.OverloadIn(c.streams)
		want(t, "OverloadIn: "+c.name, n, e, c.tick, c.err)
	}
}

// demandOf adds the messages whose deadlines are at most so many ticks, if all start together.
func demandOf(l []api.BusStream, ticks int) int {
	sum := 0
	for _, m := range messagesOf(l, make([]int, len(l)), ticks) {
		if m.deadline <= ticks {
			sum += m.left
		}
	}
	return sum
}

// multipleOf is the smallest number that all periods divide.
func multipleOf(l []api.BusStream) int {
	for n := 1; ; n++ {
		if !slices.ContainsFunc(l, func(s api.BusStream) bool { return n%s.Period != 0 }) {
			return n
		}
		if n > 5000 {
			return n
		}
	}
}

func TestDemandsMessageByMessage(t *testing.T) {
	r := newRandom()
	count := map[api.Errno]int{}
	for range 1500 {
		l := randomStreams(r, []int{1, 3, 6}[r.IntN(3)])
		ticks := r.IntN(1000)
		n, e := bus.DemandIn(l, ticks)
		want(t, fmt.Sprint("DemandIn ", l, ticks), n, e, demandOf(l, ticks), api.OK)
		last, tick, err := multipleOf(l), 0, api.ErrNone
		if last > 5000 {
			err = api.ErrLarge
		}
		for at := 1; at <= last && err == api.ErrNone; at++ {
			if n, _ := bus.DemandIn(l, at); n > at {
				tick, err = at, api.OK
			}
		}
		n, e = bus.OverloadIn(l)
		want(t, fmt.Sprint("OverloadIn ", l), n, e, tick, err)
		if f, e := bus.LoadOf(l); e == api.OK && f.Num > f.Den && err == api.ErrNone {
			t.Errorf("%v: no overload with a load of %v", l, f)
		}
		count[e]++
	}
	for _, e := range []api.Errno{api.OK, api.ErrLarge, api.ErrNone} {
		if count[e] < 100 {
			t.Errorf("the error %d comes %d times: too few", e, count[e])
		}
	}
}

// TestNoMessageIsLate carries messages of streams without an overload by the earliest deadline.
func TestNoMessageIsLate(t *testing.T) {
	r := newRandom()
	tested := 0
	for range 4000 {
		l := randomStreams(r, 6)
		if _, e := bus.OverloadIn(l); e != api.ErrNone {
			continue
		}
		tested++
		starts := randomStarts(r, l)
		carried, _ := bus.EarliestFirst(l, starts, 400)
		for i, s := range l {
			for _, m := range messagesOf(l[i:i+1], starts[i:i+1], 400) {
				if m.deadline > 400 {
					continue
				}
				so, count := carried[:m.deadline], 0
				for _, stream := range so {
					if stream == i {
						count++
					}
				}
				if count < ((m.sent-starts[i])/s.Period+1)*s.Length {
					t.Fatalf("%v from %v: the message of %d sent at %d is late", l, starts, i, m.sent)
				}
			}
		}
	}
	if tested < 500 {
		t.Errorf("%d streams without an overload: too few", tested)
	}
}

func TestNoOverloadWithAnOrder(t *testing.T) {
	r := newRandom()
	tested := 0
	for range 4000 {
		l := randomStreams(r, 6)
		if _, e := bus.OrderFor(l); e != api.OK {
			continue
		}
		n, e := bus.OverloadIn(l)
		if e == api.OK {
			t.Errorf("%v: an overload at %d, but an order in which none is late", l, n)
		}
		if e == api.ErrNone {
			tested++
		}
	}
	if tested < 500 {
		t.Errorf("%d streams with an order: too few", tested)
	}
}
