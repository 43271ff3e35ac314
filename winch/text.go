package winch

import (
	"moonpool/api"
	"moonpool/rules"
)

// digits is how many digits the numbers of a string have at most.
const digits = 3

// The words of the string of a loop.
const (
	seaLowWord = iota
	seaHighWord
	turnWord
	slewWord
	tableWord // the first one of Table, which has at least one
)

// FormatSamples is in P2.7.
func FormatSamples(l []int) string { return rules.Written(l...) }

// ParseSamples is in P2.7.
func ParseSamples(s string) ([]int, api.Errno) {
	if len(s) > api.MaxString {
		return nil, api.ErrLarge
	}
	l, ok := rules.NumbersIn(s, digits)
	if !ok {
		return nil, api.ErrSyntax
	}
	if e := samplesError(l); e != api.OK {
		return nil, e
	}
	return l, api.OK
}

// FormatLoop is in P2.7.
func FormatLoop(l api.WinchLoop) string {
	return rules.Written(append([]int{l.Sea.Lo, l.Sea.Hi, l.Turn, l.Slew}, l.Table...)...)
}

// ParseLoop is in P2.7.
func ParseLoop(s string) (api.WinchLoop, api.Errno) {
	if len(s) > api.MaxString {
		return api.WinchLoop{}, api.ErrLarge
	}
	n, ok := rules.NumbersIn(s, digits, turnWord, slewWord)
	if !ok || len(n) <= tableWord {
		return api.WinchLoop{}, api.ErrSyntax
	}
	l := api.WinchLoop{
		Table: n[tableWord:],
		Sea:   api.Range{Lo: n[seaLowWord], Hi: n[seaHighWord]},
		Turn:  n[turnWord],
		Slew:  n[slewWord],
	}
	if e := loopError(l); e != api.OK {
		return api.WinchLoop{}, e
	}
	return l, api.OK
}
