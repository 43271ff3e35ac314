package arm

import (
	"slices"

	"moonpool/api"
	"moonpool/rules"
)

// SwapsFor is in P6.7.
func SwapsFor(have, want []string) ([][2]int, api.Errno) {
	if e := toolsError(have, want); e != api.OK {
		return nil, e
	}
	var swaps [][2]int
	rack := slices.Clone(have)
	for i, tool := range want {
		// All places before this one have their tools, so that the wanted tool is here or behind.
		if at := slices.Index(rack, tool); at != i {
			rack[i], rack[at] = rack[at], rack[i]
			swaps = append(swaps, [2]int{i, at})
		}
	}
	return swaps, api.OK
}

func toolsError(have, want []string) api.Errno {
	if max(len(have), len(want)) > api.MaxArmTools {
		return api.ErrLarge
	}
	if len(have) != len(want) {
		return api.ErrShape
	}
	_, haveError := rules.FirstBad(have, rules.NameErrors(api.ErrDouble))
	_, wantError := rules.FirstBad(want, rules.NameErrors(api.ErrDouble))
	_, missing := rules.FirstBad(want, func(tool string) api.Errno {
		if !slices.Contains(have, tool) {
			return api.ErrMissing
		}
		return api.OK
	})
	return rules.FirstError(haveError, wantError, missing)
}
