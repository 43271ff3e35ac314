package bus_test

import (
	"fmt"
	"math"
	"slices"
	"testing"

	"moonpool/api"
	"moonpool/bus"
)

// P7.4

func TestCarried(t *testing.T) {
	const idle = api.BusIdle
	two := []api.BusStream{streamOf("a", 2, 2, 3), streamOf("b", 3, 3, 1)}
	for _, c := range []struct {
		name               string
		streams            []api.BusStream
		starts             []int
		ticks              int
		carried, worst     []int
		byEarliestDeadline []int
	}{
		{"example 4", exampleStreams(), []int{0, 0, 0}, 12,
			[]int{0, 1, 1, 2, 0, 2, 1, 1, 0, 2, idle, idle}, []int{1, 3, 10},
			[]int{0, 1, 1, 2, 0, 2, 1, 1, 0, 2, idle, idle}},
		{"example 5", lateStreams(), []int{0, 0, 0}, 12,
			[]int{0, 1, 1, 2, 0, 2, 1, 1, 0, 2, idle, idle}, []int{1, 3, 10},
			[]int{0, 1, 1, 2, 2, 2, 0, 1, 0, 1, idle, idle}},
		{"no ticks", exampleStreams(), []int{0, 0, 0}, 0, none, []int{0, 0, 0}, none},
		{"one tick", exampleStreams(), []int{0, 0, 0}, 1, []int{0}, []int{1, 0, 0}, []int{0}},
		{"a message that is not complete", exampleStreams(), []int{9, 9, 0}, 2, []int{2, 2}, []int{0, 0, 0}, []int{2, 2}},
		{"a start after all ticks", exampleStreams(), []int{400, 3, 3}, 3, []int{idle, idle, idle}, []int{0, 0, 0}, []int{idle, idle, idle}},
		{"a start in the last tick", exampleStreams(), []int{2, 3, 3}, 3, []int{idle, idle, 0}, []int{1, 0, 0}, []int{idle, idle, 0}},
		{"a frame between", []api.BusStream{streamOf("a", 9, 9, 1), streamOf("b", 9, 9, 3)}, []int{1, 0}, 6,
			[]int{1, 0, 1, 1, idle, idle}, []int{1, 4}, []int{1, 1, 1, 0, idle, idle}},
		{"messages of one stream that wait at once", two, []int{0, 0}, 8,
			[]int{0, 0, 0, 0, 0, 0, 0, 0}, []int{4, 0}, []int{0, 0, 0, 1, 0, 0, 0, 0}},
		{"one deadline: the first stream", []api.BusStream{streamOf("a", 9, 5, 2), streamOf("b", 9, 5, 2)}, []int{0, 0}, 5,
			[]int{0, 0, 1, 1, idle}, []int{2, 4}, []int{0, 0, 1, 1, idle}},
		{"one deadline, of the second stream sent before", []api.BusStream{streamOf("a", 9, 4, 2), streamOf("b", 9, 5, 3)}, []int{1, 0}, 6,
			[]int{1, 0, 0, 1, 1, idle}, []int{2, 5}, []int{1, 0, 0, 1, 1, idle}},
		{"the last deadline of the first stream", []api.BusStream{streamOf("a", 9, 9, 2), streamOf("b", 9, 3, 2)}, []int{0, 1}, 5,
			[]int{0, 0, 1, 1, idle}, []int{2, 3}, []int{0, 1, 1, 0, idle}},
	} {
		l, e := bus.CarriedBy(c.streams, c.starts, c.ticks)
		want(t, "CarriedBy: "+c.name, l, e, c.carried, api.OK)
		l, e = bus.WorstFrom(c.streams, c.starts, c.ticks)
		want(t, "WorstFrom: "+c.name, l, e, c.worst, api.OK)
		l, e = bus.EarliestFirst(c.streams, c.starts, c.ticks)
		want(t, "EarliestFirst: "+c.name, l, e, c.byEarliestDeadline, api.OK)
	}
}

// TestBadTraffic calls all functions of starts and ticks.
func TestBadTraffic(t *testing.T) {
	for _, c := range []struct {
		name   string
		starts []int
		ticks  int
		err    api.Errno
	}{
		{"no starts", nil, 12, api.ErrShape},
		{"two starts", []int{0, 0}, 12, api.ErrShape},
		{"four starts", []int{0, 0, 0, 0}, 12, api.ErrShape},
		{"the number of starts before them", []int{-1, 401}, 401, api.ErrShape},
		{"a start of -1", []int{0, -1, 0}, 12, api.ErrRange},
		{"a start of 401", []int{0, 0, 401}, 12, api.ErrRange},
		{"the greatest start", []int{math.MaxInt, 0, 0}, 12, api.ErrRange},
		{"the least start", []int{math.MinInt, 0, 0}, 12, api.ErrRange},
		{"-1 ticks", []int{0, 0, 0}, -1, api.ErrRange},
		{"401 ticks", []int{0, 0, 0}, 401, api.ErrRange},
		{"the most ticks", []int{0, 0, 0}, math.MaxInt, api.ErrRange},
		{"the fewest ticks", []int{0, 0, 0}, math.MinInt, api.ErrRange},
		{"the greatest ones", []int{400, 400, 400}, 400, api.OK},
	} {
		a := exampleArguments()
		a.starts, a.ticks = c.starts, c.ticks
		for _, x := range resultsOf(a) {
			if x.takes("ticks") && c.err == api.OK {
				want(t, x.name+" of "+c.name, nil, x.err, nil, api.OK)
			} else if x.takes("ticks") {
				x.wantError(t, c.name, c.err)
			}
		}
	}
}

// message is one that is sent: its stream, when it is sent, how many of its frames are left, and its response when none are.
type message struct{ stream, sent, deadline, left, response int }

// messagesOf are all messages that are sent before so many ticks, by their streams, and then as they are sent.
func messagesOf(l []api.BusStream, starts []int, ticks int) []*message {
	var all []*message
	for i, s := range l {
		for sent := starts[i]; sent < ticks; sent += s.Period {
			all = append(all, &message{stream: i, sent: sent, deadline: sent + s.Deadline, left: s.Length})
		}
	}
	return all
}

// carry carries messages, in each tick one of those with the least rank, of several the first one.
func carry(all []*message, ticks int, rank func(m *message) int) []int {
	carried := make([]int, ticks)
	for tick := range ticks {
		waiting := slices.DeleteFunc(slices.Clone(all), func(m *message) bool { return m.sent > tick || m.left == 0 })
		carried[tick] = api.BusIdle
		if len(waiting) == 0 {
			continue
		}
		m := slices.MinFunc(waiting, func(a, b *message) int { return rank(a) - rank(b) })
		carried[tick] = m.stream
		m.left--
		if m.left == 0 {
			m.response = tick - m.sent + 1
		}
	}
	return carried
}

func byStream(m *message) int { return m.stream }

func byDeadline(m *message) int { return m.deadline }

func TestCarriedMessageByMessage(t *testing.T) {
	r := newRandom()
	for range 1500 {
		l := randomStreams(r, 6)
		starts, ticks := randomStarts(r, l), r.IntN(401)
		all := messagesOf(l, starts, ticks)
		carried, e := bus.CarriedBy(l, starts, ticks)
		want(t, fmt.Sprint("CarriedBy ", l, starts, ticks), carried, e, carry(all, ticks, byStream), api.OK)
		worst := make([]int, len(l))
		for _, m := range all {
			worst[m.stream] = max(worst[m.stream], m.response)
		}
		w, e := bus.WorstFrom(l, starts, ticks)
		want(t, fmt.Sprint("WorstFrom ", l, starts, ticks), w, e, worst, api.OK)
		carried, e = bus.EarliestFirst(l, starts, ticks)
		want(t, fmt.Sprint("EarliestFirst ", l, starts, ticks), carried, e, carry(messagesOf(l, starts, ticks), ticks, byDeadline), api.OK)
	}
}
