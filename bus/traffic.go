package bus

import (
	"iter"

	"moonpool/api"
	"moonpool/rules"
)

// sender is a stream, its start, and how many of its frames were carried.
type sender struct {
	api.BusStream
	start, carried int
}

// traffic is the senders of a bus.
type traffic []sender

// CarriedBy is in P7.4.
func CarriedBy(l []api.BusStream, starts []int, ticks int) ([]int, api.Errno) {
	t, e := newTraffic(l, starts, ticks)
	if e != api.OK {
		return nil, e
	}
	return t.carriedIn(ticks, t.firstAt), api.OK
}

// EarliestFirst is in P7.4.
func EarliestFirst(l []api.BusStream, starts []int, ticks int) ([]int, api.Errno) {
	t, e := newTraffic(l, starts, ticks)
	if e != api.OK {
		return nil, e
	}
	return t.carriedIn(ticks, t.earliestAt), api.OK
}

// WorstFrom is in P7.4.
func WorstFrom(l []api.BusStream, starts []int, ticks int) ([]int, api.Errno) {
	t, e := newTraffic(l, starts, ticks)
	if e != api.OK {
		return nil, e
	}
	worst := make([]int, len(l))
	for stream, response := range t.frames(ticks, t.firstAt) {
		if stream != api.BusIdle {
			worst[stream] = max(worst[stream], response)
		}
	}
	return worst, api.OK
}

// newTraffic is for any streams, starts and ticks, whose error it finds.
func newTraffic(l []api.BusStream, starts []int, ticks int) (traffic, api.Errno) {
	if e := streamsError(l); e != api.OK {
		return nil, e
	}
	if len(starts) != len(l) {
		return nil, api.ErrShape
	}
	_, e := rules.FirstBad(starts, ticksError)
	if e := rules.FirstError(e, ticksError(ticks)); e != api.OK {
		return nil, e
	}
	t := make(traffic, len(l))
	for i, s := range l {
		t[i] = sender{BusStream: s, start: starts[i]}
	}
	return t, api.OK
}

func ticksError(ticks int) api.Errno { return rules.LimitError(ticks, 0, api.MaxBusTicks) }

// carriedIn is, for each tick, the stream of which a frame is carried, as it is chosen.
func (t traffic) carriedIn(ticks int, choose func(tick int) int) []int {
	var l []int
	for stream := range t.frames(ticks, choose) {
		l = append(l, stream)
	}
	return l
}

// frames carries frames, as they are chosen, and yields, for each tick, the stream of the frame, and the response of the message that it completes (0 if it completes none).
func (t traffic) frames(ticks int, choose func(tick int) int) iter.Seq2[int, int] {
	return func(yield func(stream, response int) bool) {
		for tick := range ticks {
			stream, response := choose(tick), 0
			if stream != api.BusIdle {
				response = t[stream].carry(tick)
			}
			if !yield(stream, response) {
				return
			}
		}
	}
}

// firstAt chooses by priorities.
func (t traffic) firstAt(tick int) int {
	for i, s := range t {
		if s.sent() <= tick {
			return i
		}
	}
	return api.BusIdle
}

// earliestAt chooses by the earliest deadline.
func (t traffic) earliestAt(tick int) int {
	chosen := api.BusIdle
	for i, s := range t {
		if s.sent() <= tick && (chosen == api.BusIdle || s.deadline() < t[chosen].deadline()) {
			chosen = i
		}
	}
	return chosen
}

// sent is the tick at which the message of the next frame is sent. Messages before it were carried completely.
func (s sender) sent() int { return s.start + s.carried/s.Length*s.Period }

// deadline is that of the message of the next frame.
func (s sender) deadline() int { return s.sent() + s.Deadline }

// carry carries the next frame, and returns the response of the message that it completes (0 if it completes none).
func (s *sender) carry(tick int) int {
	sent := s.sent()
	s.carried++
	if s.carried%s.Length != 0 {
		return 0
	}
	return tick - sent + 1
}
