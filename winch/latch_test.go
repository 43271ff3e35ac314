package winch_test

import (
	"math"
	"math/rand/v2"
	"slices"
	"testing"

	"moonpool/api"
	"moonpool/winch"
)

// P2.6, P2.13

func exampleLatch() api.WinchLatch { return api.WinchLatch{Limit: 10, Hold: 5} }

func load(at, value int) api.WinchEvent {
	return api.WinchEvent{At: at, Kind: api.WinchLoad, Value: value}
}

func open(at int) api.WinchEvent { return api.WinchEvent{At: at, Kind: api.WinchOpen} }

func shut(at int) api.WinchEvent { return api.WinchEvent{At: at, Kind: api.WinchShut} }

func badLatches() []api.WinchLatch {
	return []api.WinchLatch{
		{Limit: -1}, {Limit: 100001}, {Hold: -1}, {Hold: 100001}, {Limit: math.MinInt}, {Hold: math.MaxInt},
	}
}

// badLatched is a state that the example's latch does not have, and its error.
type badLatched struct {
	name  string
	state api.WinchLatched
	err   api.Errno
}

func badLatchedStates() []badLatched {
	return []badLatched{
		{"load -1", api.WinchLatched{Load: -1}, api.ErrRange},
		{"load 100001", api.WinchLatched{Load: 100001, Since: -1}, api.ErrRange},
		{"load the least int", api.WinchLatched{Load: math.MinInt}, api.ErrRange},
		{"since -2", api.WinchLatched{Load: 50, Since: -2}, api.ErrRange},
		{"since above MaxTick", api.WinchLatched{Since: 1000000000001}, api.ErrRange},
		{"range before form", api.WinchLatched{Load: 100001, Since: 3}, api.ErrRange},
		{"a small load, and not since", api.WinchLatched{Load: 8, Since: -1}, api.ErrForm},
		{"a load of the limit, and not since", api.WinchLatched{Load: 10, Since: -1}, api.ErrForm},
		{"a great load, and since", api.WinchLatched{Load: 11, Since: 0}, api.ErrForm},
		{"a great load, and since, shut", api.WinchLatched{Closed: true, Load: 50, Since: 7}, api.ErrForm},
	}
}

// badEvent is an event that there is not, and its error.
type badEvent struct {
	name  string
	event api.WinchEvent
	err   api.Errno
}

func badEvents() []badEvent {
	return []badEvent{
		{"at -1", load(-1, 0), api.ErrRange},
		{"at above MaxTick", load(1000000000001, 0), api.ErrRange},
		{"at the least int", open(math.MinInt), api.ErrRange},
		{"at before kind", api.WinchEvent{At: -1, Kind: 3}, api.ErrRange},
		{"kind -1", api.WinchEvent{Kind: -1}, api.ErrKind},
		{"kind 3", api.WinchEvent{Kind: 3}, api.ErrKind},
		{"kind before value", api.WinchEvent{Kind: 3, Value: -1}, api.ErrKind},
		{"value -1", load(50, -1), api.ErrRange},
		{"value 100001", load(50, 100001), api.ErrRange},
		{"value the least int", load(50, math.MinInt), api.ErrRange},
		{"open with a value", api.WinchEvent{At: 50, Kind: api.WinchOpen, Value: 1}, api.ErrRange},
		{"open with a value below 0", api.WinchEvent{At: 50, Kind: api.WinchOpen, Value: -1}, api.ErrRange},
		{"shut with a value", api.WinchEvent{At: 50, Kind: api.WinchShut, Value: 1}, api.ErrRange},
	}
}

func TestNextLatch(t *testing.T) {
	x := exampleLatch()
	closed, opened := api.WinchLatched{Closed: true, Load: 8, Since: 20}, api.WinchLatched{Load: 8, Since: 20}
	great := api.WinchLatched{Closed: true, Load: 50, Since: -1}
	for _, c := range []struct {
		name  string
		latch api.WinchLatch
		state api.WinchLatched
		event api.WinchEvent
		next  api.WinchLatched
		err   api.Errno
	}{
		{"open too soon", x, closed, open(24), api.WinchLatched{}, api.ErrRefused},
		{"open", x, closed, open(25), opened, api.OK},
		{"open later", x, closed, open(api.MaxTick), opened, api.OK},
		{"shut too soon", x, opened, shut(24), api.WinchLatched{}, api.ErrRefused},
		{"shut", x, opened, shut(25), closed, api.OK},
		{"open what is open", x, opened, open(25), api.WinchLatched{}, api.ErrState},
		{"shut what is closed", x, closed, shut(25), api.WinchLatched{}, api.ErrState},
		{"state before refused", x, opened, open(20), api.WinchLatched{}, api.ErrState},
		{"open under load", x, great, open(100), api.WinchLatched{}, api.ErrRefused},
		{"shut under load", x, api.WinchLatched{Load: 50, Since: -1}, shut(40), api.WinchLatched{}, api.ErrRefused},
		{"shut under load without a hold", api.WinchLatch{Limit: 10}, api.WinchLatched{Load: 50, Since: -1}, shut(0), api.WinchLatched{}, api.ErrRefused},
		{"a great load", x, opened, load(30, 50), api.WinchLatched{Load: 50, Since: -1}, api.OK},
		{"a greater load", x, great, load(0, 51), api.WinchLatched{Closed: true, Load: 51, Since: -1}, api.OK},
		{"a small load after a great one", x, great, load(60, 9), api.WinchLatched{Closed: true, Load: 9, Since: 60}, api.OK},
		{"a small load after a small one", x, closed, load(30, 3), api.WinchLatched{Closed: true, Load: 3, Since: 20}, api.OK},
		{"a load of the limit", x, closed, load(30, 10), api.WinchLatched{Closed: true, Load: 10, Since: 20}, api.OK},
		{"a load of one more", x, closed, load(30, 11), api.WinchLatched{Closed: true, Load: 11, Since: -1}, api.OK},
		{"a load at its own tick", x, closed, load(20, 5), api.WinchLatched{Closed: true, Load: 5, Since: 20}, api.OK},
		{"a load before", x, closed, load(19, 5), api.WinchLatched{}, api.ErrOrder},
		{"order before state", x, opened, open(19), api.WinchLatched{}, api.ErrOrder},
		{"no hold", api.WinchLatch{Limit: 10}, closed, open(20), opened, api.OK},
		{"since the last tick", x, api.WinchLatched{Closed: true, Load: 8, Since: api.MaxTick}, load(api.MaxTick, 9), api.WinchLatched{Closed: true, Load: 9, Since: api.MaxTick}, api.OK},
		{"no load", x, great, load(60, 0), api.WinchLatched{Closed: true, Load: 0, Since: 60}, api.OK},
		{"no limit", api.WinchLatch{}, api.WinchLatched{}, load(4, 1), api.WinchLatched{Load: 1, Since: -1}, api.OK},
		{"a hold above the limit", api.WinchLatch{Limit: 1, Hold: 100000}, api.WinchLatched{Closed: true}, open(100000), api.WinchLatched{}, api.OK},
		{"a hold above the limit, too soon", api.WinchLatch{Limit: 1, Hold: 100000}, api.WinchLatched{Closed: true}, open(99999), api.WinchLatched{}, api.ErrRefused},
		{"the greatest load", api.WinchLatch{Limit: 100000}, api.WinchLatched{}, load(api.MaxTick, 100000), api.WinchLatched{Load: 100000}, api.OK},
	} {
		s, e := winch.NextLatch(c.latch, c.state, c.event)
		want(t, c.name, s, e, c.next, c.err)
	}
}

func TestErrorsOfNextLatch(t *testing.T) {
	x, s := exampleLatch(), api.WinchLatched{Closed: true, Load: 8, Since: 20}
	for _, bad := range badLatches() {
		next, e := winch.NextLatch(bad, api.WinchLatched{Since: -1}, api.WinchEvent{Kind: 9})
		want(t, "a bad latch", next, e, api.WinchLatched{}, api.ErrRange)
	}
	for _, bad := range badLatchedStates() {
		for _, event := range []api.WinchEvent{load(0, 0), open(50), shut(50), {Kind: 9}} {
			next, e := winch.NextLatch(x, bad.state, event)
			want(t, bad.name, next, e, api.WinchLatched{}, bad.err)
		}
	}
	for _, bad := range badEvents() {
		next, e := winch.NextLatch(x, s, bad.event)
		want(t, bad.name, next, e, api.WinchLatched{}, bad.err)
	}
}

func TestLatchedBy(t *testing.T) {
	x, begin := exampleLatch(), api.WinchLatched{Closed: true}
	example := []api.WinchEvent{load(3, 50), load(20, 8)}
	with := func(events ...api.WinchEvent) []api.WinchEvent { return slices.Concat(example, events) }
	for _, c := range []struct {
		name   string
		latch  api.WinchLatch
		events []api.WinchEvent
		state  api.WinchLatched
		err    api.Errno
	}{
		{"no events", x, nil, begin, api.OK},
		{"example", x, example, api.WinchLatched{Closed: true, Load: 8, Since: 20}, api.OK},
		{"open too soon", x, with(open(24)), api.WinchLatched{}, api.ErrRefused},
		{"open", x, with(open(25)), api.WinchLatched{Load: 8, Since: 20}, api.OK},
		{"open under load", x, with(open(25), load(30, 50), shut(40)), api.WinchLatched{}, api.ErrRefused},
		{"open and shut", x, with(open(25), shut(25)), api.WinchLatched{Closed: true, Load: 8, Since: 20}, api.OK},
		{"open from the beginning", x, []api.WinchEvent{open(5)}, api.WinchLatched{}, api.OK},
		{"open from the beginning, too soon", x, []api.WinchEvent{open(4)}, api.WinchLatched{}, api.ErrRefused},
		{"shut from the beginning", x, []api.WinchEvent{shut(5)}, api.WinchLatched{}, api.ErrState},
		{"open twice", x, with(open(25), open(26)), api.WinchLatched{}, api.ErrState},
		{"no hold", api.WinchLatch{Limit: 10}, []api.WinchEvent{load(7, 11), load(7, 10), open(7)}, api.WinchLatched{Load: 10, Since: 7}, api.OK},
		{"a tick before that of the event before", x, []api.WinchEvent{load(3, 50), load(2, 50)}, api.WinchLatched{}, api.ErrOrder},
		{"a tick before that of a load that changed nothing", x, []api.WinchEvent{load(9, 1), load(8, 2)}, api.WinchLatched{}, api.ErrOrder},
		{"a tick before that of an opening", x, []api.WinchEvent{open(9), load(8, 2)}, api.WinchLatched{}, api.ErrOrder},
		{"order before state", x, with(open(25), open(24)), api.WinchLatched{}, api.ErrOrder},
		{"state before refused", x, []api.WinchEvent{load(3, 50), shut(3)}, api.WinchLatched{}, api.ErrState},
		{"the first event with an error", x, []api.WinchEvent{open(4), {Kind: 9}}, api.WinchLatched{}, api.ErrRefused},
		{"events in their order", x, []api.WinchEvent{{Kind: 9}, load(-1, 0)}, api.WinchLatched{}, api.ErrKind},
		{"the greatest number of events", x, slices.Repeat([]api.WinchEvent{load(1, 2)}, 40), api.WinchLatched{Closed: true, Load: 2}, api.OK},
		{"too many events", x, slices.Repeat([]api.WinchEvent{load(1, 2)}, 41), api.WinchLatched{}, api.ErrLarge},
		{"too many events before their errors", x, slices.Repeat([]api.WinchEvent{load(-1, 2)}, 41), api.WinchLatched{}, api.ErrLarge},
	} {
		s, e := winch.LatchedBy(c.latch, c.events)
		want(t, c.name, s, e, c.state, c.err)
	}
	for _, bad := range badLatches() {
		s, e := winch.LatchedBy(bad, make([]api.WinchEvent, 41))
		want(t, "a bad latch", s, e, api.WinchLatched{}, api.ErrRange)
	}
	for _, bad := range badEvents() {
		s, e := winch.LatchedBy(x, []api.WinchEvent{load(0, 1), bad.event})
		want(t, bad.name, s, e, api.WinchLatched{}, bad.err)
	}
	s, e := winch.LatchedBy(x, []api.WinchEvent{load(9, 1), {At: 8, Kind: 3}})
	want(t, "the error of an event before its order", s, e, api.WinchLatched{}, api.ErrKind)
}

// randomEvents are events of ascending ticks, some of which are not granted.
func randomEvents(r *rand.Rand, x api.WinchLatch) []api.WinchEvent {
	var l []api.WinchEvent
	at := 0
	for range between(r, 0, 12) {
		at += between(r, 0, x.Hold+1)
		switch r.IntN(4) {
		case 0:
			l = append(l, open(at))
		case 1:
			l = append(l, shut(at))
		default:
			l = append(l, load(at, between(r, 0, x.Limit+2)))
		}
	}
	return l
}

// history says of events what the last load is, and since when all are small (-1: the last one is not).
func history(x api.WinchLatch, events []api.WinchEvent) (last, since int) {
	for _, e := range events {
		if e.Kind != api.WinchLoad {
			continue
		}
		last = e.Value
		switch {
		case last > x.Limit:
			since = -1
		case since == -1:
			since = e.At
		}
	}
	return last, since
}

func TestNeverUnderLoad(t *testing.T) {
	r := newRandom()
	granted, refused := 0, 0
	for range 4000 {
		x := api.WinchLatch{Limit: between(r, 0, 3), Hold: between(r, 0, 4)}
		events := randomEvents(r, x)
		state, e := api.WinchLatched{Closed: true}, api.OK
		for i, event := range events {
			last, since := history(x, events[:i])
			was := state.Closed
			state, e = winch.NextLatch(x, state, event)
			all, f := winch.LatchedBy(x, events[:i+1])
			want(t, "LatchedBy as NextLatch", all, f, state, e)
			if e != api.OK {
				if e == api.ErrRefused && since >= 0 && event.At-since >= x.Hold {
					t.Errorf("%v, %v: refused, with the load %d since %d", x, events[:i+1], last, since)
				}
				if event.Kind == api.WinchLoad {
					t.Errorf("%v, %v: a load is the error %d", x, events[:i+1], e)
				}
				refused++
				break
			}
			if event.Kind == api.WinchLoad {
				last, since = history(x, events[:i+1])
				want(t, "NextLatch", state, e, api.WinchLatched{Closed: was, Load: last, Since: since}, api.OK)
				continue
			}
			granted++
			if state.Closed == was || state.Closed != (event.Kind == api.WinchShut) {
				t.Errorf("%v, %v: closed is %v", x, events[:i+1], state.Closed)
			}
			neverUnderLoad(t, x, events[:i], event.At)
		}
	}
	if granted < 300 || refused < 300 {
		t.Errorf("%d granted and %d refused events alone were tested", granted, refused)
	}
}

// neverUnderLoad checks that a latch that moved had no load above its limit for so many ticks.
func neverUnderLoad(t *testing.T, x api.WinchLatch, events []api.WinchEvent, at int) {
	t.Helper()
	if last, _ := history(x, events); last > x.Limit {
		t.Errorf("%v, %v: moved under the load %d", x, events, last)
	}
	for _, e := range events {
		if e.Kind == api.WinchLoad && e.Value > x.Limit && e.At > at-x.Hold {
			t.Errorf("%v, %v: moved at %d, with a load of %d at %d", x, events, at, e.Value, e.At)
		}
	}
}
