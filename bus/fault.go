package bus

import (
	"slices"

	"moonpool/api"
	"moonpool/rules"
)

// WorksAfter is in P7.6.
func WorksAfter(n api.BusNet, failed []int) ([]int, api.Errno) {
	if e := faultsError(n, failed); e != api.OK {
		return nil, e
	}
	var working []int
	for i := range n.Functions {
		if works(n, i, rules.SetOf(failed...)) {
			working = append(working, i)
		}
	}
	return working, api.OK
}

// CutOf is in P7.6.
func CutOf(n api.BusNet, function int) ([]int, api.Errno) {
	if e := rules.FirstError(netError(n), rules.IndexError(function, len(n.Functions))); e != api.OK {
		return nil, e
	}
	return cut(n, function).Members(), api.OK
}

// ModeAfter is in P7.6.
func ModeAfter(n api.BusNet, failed []int) (int, api.Errno) {
	if e := faultsError(n, failed); e != api.OK {
		return 0, e
	}
	isBroken := func(function int) bool { return !works(n, function, rules.SetOf(failed...)) }
	mode := slices.IndexFunc(n.Modes, func(m api.BusMode) bool { return !slices.ContainsFunc(m.Needs, isBroken) })
	if mode < 0 {
		return 0, api.ErrNone
	}
	return mode, api.OK
}

// MarginOf is in P7.6.
func MarginOf(n api.BusNet, mode int) (int, api.Errno) {
	if e := rules.FirstError(netError(n), rules.IndexError(mode, len(n.Modes))); e != api.OK {
		return 0, e
	}
	needs := n.Modes[mode].Needs
	if len(needs) == 0 {
		return 0, api.ErrNone
	}
	margin := len(n.Parts)
	for _, function := range needs {
		margin = min(margin, cut(n, function).Size())
	}
	return margin, api.OK
}

// faultsError is the error of a net and of faults.
func faultsError(n api.BusNet, failed []int) api.Errno {
	return rules.FirstError(netError(n), setError(failed, len(n.Parts)))
}

// works is whether a function works after faults.
func works(n api.BusNet, function int, failed rules.Set) bool {
	return slices.ContainsFunc(n.Functions[function].Ways, func(way []int) bool {
		return !slices.ContainsFunc(way, failed.Has)
	})
}

// cut is the minimum cut of a function. There is one, because none works without any parts.
func cut(n api.BusNet, function int) rules.Set {
	failed, _ := rules.Minimum(len(n.Parts), func(failed rules.Set) bool { return !works(n, function, failed) })
	return failed
}
