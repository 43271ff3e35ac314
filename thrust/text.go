package thrust

import (
	"moonpool/api"
	"moonpool/rules"
)

// digits is how many digits the numbers of a string have at most.
const digits = 4

// The words of the string of a thruster.
const (
	directionXWord = iota
	directionYWord
	placeXWord
	placeYWord
	lowWord
	highWord
	deadWord
	words // how many there are
)

// FormatThrusters is in P3.7.
func FormatThrusters(l []api.Thruster) string {
	return rules.Joined(l, ";", func(t api.Thruster) string {
		return rules.Written(t.Direction[0], t.Direction[1], t.Place[0], t.Place[1], t.Limit.Lo, t.Limit.Hi, t.Dead)
	})
}

// ParseThrusters is in P3.7.
func ParseThrusters(s string) ([]api.Thruster, api.Errno) {
	return rules.Parsed(s, readThrusters, thrustersError)
}

// readThrusters reads any thrusters, valid or not.
func readThrusters(s string) ([]api.Thruster, bool) { return rules.ReadSome(s, ";", readThruster) }

func readThruster(s string) (api.Thruster, bool) {
	n, ok := rules.NumbersIn(s, digits, deadWord)
	if !ok || len(n) != words {
		return api.Thruster{}, false
	}
	return api.Thruster{
		Direction: [2]int{n[directionXWord], n[directionYWord]},
		Place:     [2]int{n[placeXWord], n[placeYWord]},
		Limit:     api.Range{Lo: n[lowWord], Hi: n[highWord]},
		Dead:      n[deadWord],
	}, true
}

// FormatSetting is in P3.7.
func FormatSetting(setting []int) string { return rules.Written(setting...) }

// ParseSetting is in P3.7.
func ParseSetting(s string) ([]int, api.Errno) {
	return rules.Parsed(s, readSetting, func(setting []int) api.Errno {
		if len(setting) > api.MaxThrusters {
			return api.ErrLarge
		}
		_, e := numbersError(setting)
		return e
	})
}

// readSetting reads any whole setting, valid or not.
func readSetting(s string) ([]int, bool) { return rules.NumbersIn(s, digits) }
