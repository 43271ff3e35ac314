package winch

import (
	"moonpool/api"
	"moonpool/rules"
)

// digits is how many digits the numbers of a string have at most.
const digits = 3

// The words of the string of a loop.
const (
	seaLowWord = iota
	seaHighWord
	turnWord
	slewWord
	tableWord // the first one of Table, which has at least one
)

// FormatSamples is in P2.7.
func FormatSamples(l []int) string { return rules.Written(l...) }

// ParseSamples is in P2.7.
func ParseSamples(s string) ([]int, api.Errno) {
	return rules.Parsed(s, func(s string) ([]int, bool) { return rules.NumbersIn(s, digits) }, samplesError)
}

// FormatLoop is in P2.7.
func FormatLoop(l api.WinchLoop) string {
	return rules.Written(append([]int{l.Sea.Lo, l.Sea.Hi, l.Turn, l.Slew}, l.Table...)...)
}

// ParseLoop is in P2.7.
func ParseLoop(s string) (api.WinchLoop, api.Errno) {
	return rules.Parsed(s, readLoop, loopError)
}

// readLoop reads any loop, valid or not.
func readLoop(s string) (api.WinchLoop, bool) {
	n, ok := rules.NumbersIn(s, digits, turnWord, slewWord)
	if !ok || len(n) <= tableWord {
		return api.WinchLoop{}, false
	}
	return api.WinchLoop{
		Table: n[tableWord:],
		Sea:   api.Range{Lo: n[seaLowWord], Hi: n[seaHighWord]},
		Turn:  n[turnWord],
		Slew:  n[slewWord],
	}, true
}
