package winch

import (
	"moonpool/api"
	"moonpool/rules"
)

// latch is a given latch, and its state.
type latch struct {
	api.WinchLatch
	api.WinchLatched
}

// NextLatch is in P2.6.
func NextLatch(x api.WinchLatch, s api.WinchLatched, e api.WinchEvent) (api.WinchLatched, api.Errno) {
	err := rules.FirstError(latchError(x), latch{x, s}.stateError(), eventError(e))
	if err != api.OK {
		return api.WinchLatched{}, err
	}
	if e.At < s.Since {
		return api.WinchLatched{}, api.ErrOrder
	}
	return latch{x, s}.next(e)
}

// LatchedBy is in P2.6.
func LatchedBy(x api.WinchLatch, l []api.WinchEvent) (api.WinchLatched, api.Errno) {
	if e := latchError(x); e != api.OK {
		return api.WinchLatched{}, e
	}
	if len(l) > api.MaxWinchEvents {
		return api.WinchLatched{}, api.ErrLarge
	}
	at, s := 0, api.WinchLatched{Closed: true}
	_, e := rules.FirstBad(l, func(event api.WinchEvent) api.Errno {
		if e := eventError(event); e != api.OK {
			return e
		}
		if event.At < at {
			return api.ErrOrder
		}
		next, e := latch{x, s}.next(event)
		at, s = event.At, next
		return e
	})
	if e != api.OK {
		return api.WinchLatched{}, e
	}
	return s, api.OK
}

func latchError(x api.WinchLatch) api.Errno {
	return rules.FirstError(
		rules.LimitError(x.Limit, 0, api.MaxWinchLoad),
		rules.LimitError(x.Hold, 0, api.MaxWinchLoad),
	)
}

func (x latch) stateError() api.Errno {
	e := rules.FirstError(
		rules.LimitError(x.Load, 0, api.MaxWinchLoad),
		rules.LimitError(x.Since, -1, api.MaxTick),
	)
	if e == api.OK && (x.Since == -1) != (x.Load > x.Limit) {
		return api.ErrForm
	}
	return e
}

func eventError(e api.WinchEvent) api.Errno {
	err := rules.FirstError(rules.LimitError(e.At, 0, api.MaxTick), rules.KindError(e.Kind, api.WinchKinds))
	if err != api.OK {
		return err
	}
	if e.Kind != api.WinchLoad {
		return rules.LimitError(e.Value, 0, 0)
	}
	return rules.LimitError(e.Value, 0, api.MaxWinchLoad)
}

// next is the state after a valid event, which is not before the last load.
func (x latch) next(e api.WinchEvent) (api.WinchLatched, api.Errno) {
	if e.Kind == api.WinchLoad {
		return x.loaded(e), api.OK
	}
	shut := e.Kind == api.WinchShut
	if x.Closed == shut {
		return api.WinchLatched{}, api.ErrState
	}
	if x.Since == -1 || e.At-x.Since < x.Hold {
		return api.WinchLatched{}, api.ErrRefused
	}
	x.Closed = shut
	return x.WinchLatched, api.OK
}

// loaded is the state after a load was measured.
func (x latch) loaded(e api.WinchEvent) api.WinchLatched {
	x.Load = e.Value
	if x.Load > x.Limit {
		x.Since = -1
	} else if x.Since == -1 {
		x.Since = e.At
	}
	return x.WinchLatched
}
