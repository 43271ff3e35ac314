package bus

import (
	"moonpool/api"
	"moonpool/rules"
)

// CheckNet is in P7.6.
func CheckNet(n api.BusNet) (int, api.Errno) {
	if e := sizeError(n); e != api.OK {
		return 0, e
	}
	if i, e := rules.FirstBad(n.Parts, rules.NameErrors(api.ErrExists)); e != api.OK {
		return i, e
	}
	functionNameError := rules.NameErrors(api.ErrExists)
	i, e := rules.FirstBad(n.Functions, func(f api.BusFunction) api.Errno {
		return rules.FirstError(functionNameError(f.Name), waysError(f.Ways, len(n.Parts)))
	})
	if e != api.OK {
		return i, e
	}
	modeNameError := rules.NameErrors(api.ErrExists)
	return rules.FirstBad(n.Modes, func(m api.BusMode) api.Errno {
		return rules.FirstError(modeNameError(m.Name), setError(m.Needs, len(n.Functions)))
	})
}

func netError(n api.BusNet) api.Errno {
	_, e := CheckNet(n)
	return e
}

// sizeError is the error of how many parts, functions and modes there are.
func sizeError(n api.BusNet) api.Errno {
	if len(n.Parts) == 0 {
		return api.ErrShape
	}
	if max(len(n.Parts), len(n.Functions)) > api.MaxBusParts || len(n.Modes) > api.MaxBusModes {
		return api.ErrLarge
	}
	return api.OK
}

// waysError is the error of the ways of a function, for so many parts.
func waysError(ways [][]int, parts int) api.Errno {
	_, e := rules.CheckList(ways, 1, api.MaxBusWays, func(way []int) api.Errno {
		if len(way) == 0 {
			return api.ErrShape
		}
		return setError(way, parts)
	})
	return e
}

// setError is the error of a set of indexes of so many items.
func setError(set []int, count int) api.Errno {
	_, e := rules.FirstBad(set, rules.SetErrors(count))
	return e
}
