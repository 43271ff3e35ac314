package bus

import (
	"moonpool/api"
	"moonpool/rules"
)

// SilentIn is in P7.7.
func SilentIn(heard []int, span api.Range, timeout int) ([]api.Range, api.Errno) {
	if e := rules.FirstError(heardError(heard), spanError(span), tickError(timeout)); e != api.OK {
		return nil, e
	}
	var silent []api.Range
	from := span.Lo
	for _, tick := range heard {
		if to := min(tick-1, span.Hi); from <= to {
			silent = append(silent, api.Range{Lo: from, Hi: to})
		}
		from = max(from, tick+timeout+1)
	}
	if from <= span.Hi {
		silent = append(silent, api.Range{Lo: from, Hi: span.Hi})
	}
	return silent, api.OK
}

func heardError(heard []int) api.Errno {
	risingError := rules.RisingErrors()
	_, e := rules.CheckList(heard, 0, api.MaxBusHeard, func(tick int) api.Errno {
		return rules.FirstError(tickError(tick), risingError(tick))
	})
	return e
}

func spanError(span api.Range) api.Errno {
	return rules.FirstError(rules.LimitsError(0, api.MaxTick, span.Lo, span.Hi), rules.OrderError(span))
}

func tickError(tick int) api.Errno { return rules.LimitError(tick, 0, api.MaxTick) }
