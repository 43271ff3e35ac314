package dive

import (
	"slices"
	"strings"

	"moonpool/api"
	"moonpool/rules"
)

// How many digits the numbers of a string have at most.
const (
	taskDigits  = 6
	stateDigits = 9
	planDigits  = 2
)

// The words of the string of a task after its name.
const (
	placeWord = iota
	durationWord
	powerWord
	oilWord
	valueWord
	lowWord
	highWord
	afterWord // the first one of After, which may have none
)

// The words of the string of a state before "/".
const (
	statePlaceWord = iota
	stateAtWord
	statePowerWord
	stateOilWord
	stateWords // how many there are
)

// FormatTasks is in P8.7.
func FormatTasks(l []api.DiveTask) string {
	return rules.Joined(l, ";", func(t api.DiveTask) string {
		numbers := []int{t.Place, t.Duration, t.Power, t.Oil, t.Value, t.Window.Lo, t.Window.Hi}
		return t.Name + " " + rules.Written(slices.Concat(numbers, t.After)...)
	})
}

// ParseTasks is in P8.7.
func ParseTasks(s string) ([]api.DiveTask, api.Errno) {
	return rules.Parsed(s, readTasks, func(l []api.DiveTask) api.Errno {
		_, e := checkTasks(l)
		return e
	})
}

// FormatState is in P8.7.
func FormatState(s api.DiveState) string {
	return rules.Written(s.Place, s.At, s.Power, s.Oil) + "/" + rules.Written(s.Done...)
}

// ParseState is in P8.7.
func ParseState(s string) (api.DiveState, api.Errno) {
	return rules.Parsed(s, readState, func(api.DiveState) api.Errno { return api.OK })
}

// FormatPlan is in P8.7.
func FormatPlan(plan []int) string { return rules.Written(plan...) }

// ParsePlan is in P8.7.
func ParsePlan(s string) ([]int, api.Errno) {
	return rules.Parsed(s, readPlan, func([]int) api.Errno { return api.OK })
}

// readTasks reads any tasks, valid or not.
func readTasks(s string) ([]api.DiveTask, bool) { return rules.ReadAny(s, ";", readTask) }

func readTask(s string) (api.DiveTask, bool) {
	name, rest, _ := strings.Cut(s, " ")
	n, ok := rules.CountsIn(rest, taskDigits)
	if name == "" || !ok || len(n) < afterWord {
		return api.DiveTask{}, false
	}
	return api.DiveTask{
		Name:     name,
		Place:    n[placeWord],
		Duration: n[durationWord],
		Power:    n[powerWord],
		Oil:      n[oilWord],
		Value:    n[valueWord],
		Window:   api.Range{Lo: n[lowWord], Hi: n[highWord]},
		After:    n[afterWord:],
	}, true
}

// readState reads any state, which need not fit any site. A second "/" is part of no number, so that it is found there.
func readState(s string) (api.DiveState, bool) {
	before, behind, isCut := strings.Cut(s, "/")
	n, areNumbers := rules.CountsIn(before, stateDigits)
	done, areDone := rules.CountsIn(behind, stateDigits)
	if !isCut || !areNumbers || !areDone || len(n) != stateWords {
		return api.DiveState{}, false
	}
	return api.DiveState{
		Place: n[statePlaceWord],
		At:    n[stateAtWord],
		Power: n[statePowerWord],
		Oil:   n[stateOilWord],
		Done:  done,
	}, true
}

// readPlan reads any plan, which need not fit any site.
func readPlan(s string) ([]int, bool) { return rules.CountsIn(s, planDigits) }
