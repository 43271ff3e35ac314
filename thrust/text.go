package thrust

import (
	"strings"

	"moonpool/api"
	"moonpool/rules"
)

// digits is how many digits the numbers of a string have at most.
const digits = 4

// The words of the string of a thruster.
const (
	directionXWord = iota
	directionYWord
	placeXWord
	placeYWord
	lowWord
	highWord
	deadWord
	words // how many there are
)

// FormatThrusters is in P3.7.
func FormatThrusters(l []api.Thruster) string {
	parts := make([]string, len(l))
	for i, t := range l {
		parts[i] = rules.Written(t.Direction[0], t.Direction[1], t.Place[0], t.Place[1], t.Limit.Lo, t.Limit.Hi, t.Dead)
	}
	return strings.Join(parts, ";")
}

// ParseThrusters is in P3.7.
func ParseThrusters(s string) ([]api.Thruster, api.Errno) {
	return rules.Parsed(s, readThrusters, thrustersError)
}

// readThrusters reads any thrusters, valid or not.
func readThrusters(s string) ([]api.Thruster, bool) {
	var l []api.Thruster
	for _, part := range strings.Split(s, ";") {
		n, ok := rules.NumbersIn(part, digits, deadWord)
		if !ok || len(n) != words {
			return nil, false
		}
		l = append(l, api.Thruster{
			Direction: [2]int{n[directionXWord], n[directionYWord]},
			Place:     [2]int{n[placeXWord], n[placeYWord]},
			Limit:     api.Range{Lo: n[lowWord], Hi: n[highWord]},
			Dead:      n[deadWord],
		})
	}
	return l, true
}

// FormatSetting is in P3.7.
func FormatSetting(setting []int) string { return rules.Written(setting...) }

// ParseSetting is in P3.7.
func ParseSetting(s string) ([]int, api.Errno) {
	return rules.Parsed(s, readSetting, func(setting []int) api.Errno {
		if len(setting) > api.MaxThrusters {
			return api.ErrLarge
		}
		_, e := numbersError(setting)
		return e
	})
}

// readSetting reads any whole setting, valid or not.
func readSetting(s string) ([]int, bool) { return rules.NumbersIn(s, digits) }
