package arm

import (
	"slices"
	"strings"

	"moonpool/api"
	"moonpool/rules"
)

// digits is how many digits the numbers of a string have at most.
const digits = 2

// slideWord is the word of the string of a pose before those of the quarters.
const slideWord = 0

// The words of the string of a move.
const (
	jointWord = iota
	byWord
	moveWords // how many there are
)

// FormatPose is in P6.8.
func FormatPose(p api.ArmPose) string {
	return rules.Written(slices.Concat([]int{p.Slide}, p.Quarters)...)
}

// ParsePose is in P6.8. Strings of any length are parsed: the promise has no error for long ones.
func ParsePose(s string) (api.ArmPose, api.Errno) {
	n, ok := rules.NumbersIn(s, digits, slideWord)
	if !ok {
		return api.ArmPose{}, api.ErrSyntax
	}
	if len(n)-1 > api.MaxArmLinks {
		return api.ArmPose{}, api.ErrLarge
	}
	return api.ArmPose{Slide: n[slideWord], Quarters: n[slideWord+1:]}, api.OK
}

// FormatPath is in P6.8.
func FormatPath(path []api.ArmMove) string {
	parts := make([]string, len(path))
	for i, m := range path {
		parts[i] = rules.Written(m.Joint, m.By)
	}
	return strings.Join(parts, ";")
}

// ParsePath is in P6.8.
func ParsePath(s string) ([]api.ArmMove, api.Errno) { return rules.Parsed(s, readPath, pathError) }

// readPath reads any path, which need not fit any scene.
func readPath(s string) ([]api.ArmMove, bool) {
	if s == "" {
		return nil, true
	}
	var path []api.ArmMove
	for _, part := range strings.Split(s, ";") {
		n, ok := rules.NumbersIn(part, digits)
		if !ok || len(n) != moveWords {
			return nil, false
		}
		path = append(path, api.ArmMove{Joint: n[jointWord], By: n[byWord]})
	}
	return path, true
}
