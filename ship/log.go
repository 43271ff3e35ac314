package ship

import (
	"slices"

	"moonpool/api"
	"moonpool/rules"
)

// CheckLog is in P10.2.
func CheckLog(n api.ShipNet, l []api.ShipEntry) (int, api.Errno) {
	_, i, e := replayed(n, l)
	return i, e
}

// Appended is in P10.2.
func Appended(n api.ShipNet, l []api.ShipEntry, e api.ShipEntry) ([]api.ShipEntry, api.Errno) {
	h, _, err := replayed(n, l)
	if err != api.OK {
		return nil, err
	}
	if err := h.enter(e); err != api.OK {
		return nil, err
	}
	return h.log, api.OK
}

// Merged is in P10.6.
func Merged(n api.ShipNet, a, b []api.ShipEntry) ([]api.ShipEntry, []int, api.Errno) {
	h, _, e := replayed(n, a)
	if e != api.OK {
		return nil, nil, e
	}
	if _, e := CheckLog(n, b); e != api.OK {
		return nil, nil, e
	}
	var refused []int
	for i := commonEntries(a, b); i < len(b); i++ {
		if h.enter(b[i]) != api.OK {
			refused = append(refused, i)
		}
	}
	return h.log, refused, api.OK
}

// commonEntries is how many entries the common beginning of two logs has.
func commonEntries(a, b []api.ShipEntry) int {
	most := min(len(a), len(b))
	for i := range most {
		if a[i] != b[i] {
			return i
		}
	}
	return most
}

// StateOf is in P10.3.
func StateOf(n api.ShipNet, l []api.ShipEntry) (api.ShipState, api.Errno) {
	h, _, e := replayed(n, l)
	if e != api.OK {
		return api.ShipState{}, e
	}
	return h.ShipState, api.OK
}

// StateAt is in P10.3. The entries up to a tick are a beginning of the log, which is valid, too.
func StateAt(n api.ShipNet, l []api.ShipEntry, tick int) (api.ShipState, api.Errno) {
	_, e := CheckLog(n, l)
	if e := rules.FirstError(e, rules.LimitError(tick, 0, api.MaxTick)); e != api.OK {
		return api.ShipState{}, e
	}
	if later := slices.IndexFunc(l, func(e api.ShipEntry) bool { return e.At > tick }); later >= 0 {
		l = l[:later]
	}
	return StateOf(n, l)
}
