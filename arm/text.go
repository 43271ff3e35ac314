package arm

import (
	"slices"

	"moonpool/api"
	"moonpool/rules"
)

// digits is how many digits the numbers of a string have at most.
const digits = 2

// slideWord is the word of the string of a pose before those of the quarters.
const slideWord = 0

// The words of the string of a move.
const (
	jointWord = iota
	byWord
	moveWords // how many there are
)

// FormatPose is in P6.8.
func FormatPose(p api.ArmPose) string {
	return rules.Written(slices.Concat([]int{p.Slide}, p.Quarters)...)
}

// ParsePose is in P6.8. Strings of any length are parsed: the promise has no error for long ones.
func ParsePose(s string) (api.ArmPose, api.Errno) {
	n, ok := rules.NumbersIn(s, digits, slideWord)
	if !ok {
		return api.ArmPose{}, api.ErrSyntax
	}
	if len(n)-1 > api.MaxArmLinks {
		return api.ArmPose{}, api.ErrLarge
	}
	return api.ArmPose{Slide: n[slideWord], Quarters: n[slideWord+1:]}, api.OK
}

// FormatPath is in P6.8.
func FormatPath(path []api.ArmMove) string {
	return rules.Joined(path, ";", func(m api.ArmMove) string { return rules.Written(m.Joint, m.By) })
}

// ParsePath is in P6.8.
func ParsePath(s string) ([]api.ArmMove, api.Errno) { return rules.Parsed(s, readPath, pathError) }

// readPath reads any path, which need not fit any scene.
func readPath(s string) ([]api.ArmMove, bool) { return rules.ReadAny(s, ";", readMove) }

func readMove(s string) (api.ArmMove, bool) {
	n, ok := rules.NumbersIn(s, digits)
	if !ok || len(n) != moveWords {
		return api.ArmMove{}, false
	}
	return api.ArmMove{Joint: n[jointWord], By: n[byWord]}, true
}
