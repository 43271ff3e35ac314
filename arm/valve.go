package arm

import (
	"moonpool/api"
	"moonpool/rules"
)

// gainParts is into how many parts the gain of a valve divides 1.
const gainParts = 1000

// SpeedIn is in P6.5.
func SpeedIn(v api.ArmValve, command int) (api.Range, api.Errno) {
	if e := rules.FirstError(valveError(v), commandError(command)); e != api.OK {
		return api.Range{}, e
	}
	return speed(v, command), api.OK
}

// TravelIn is in P6.5.
func TravelIn(v api.ArmValve, commands []int) (api.Range, api.Errno) {
	_, e := rules.CheckList(commands, 0, api.MaxArmCommands, commandError)
	if e = rules.FirstError(valveError(v), e); e != api.OK {
		return api.Range{}, e
	}
	var travel api.Range
	for _, c := range commands {
		r := speed(v, c)
		travel.Lo += r.Lo
		travel.Hi += r.Hi
	}
	return travel, api.OK
}

func valveError(v api.ArmValve) api.Errno {
	return rules.FirstError(
		rules.LimitError(v.Dead, 0, api.MaxArmCommand),
		rules.LimitError(v.Gain, 0, api.MaxArmGain),
		rules.LimitError(v.Leak, 0, api.MaxArmLeak),
	)
}

func commandError(c int) api.Errno { return rules.SizeError(api.MaxArmCommand, c) }

func speed(v api.ArmValve, command int) api.Range {
	parts := v.Gain * beyond(command, v.Dead)
	return api.Range{Lo: rules.Floor(parts, gainParts) - v.Leak, Hi: rules.Ceiling(parts, gainParts) + v.Leak}
}

// beyond is how far a command goes beyond a dead zone.
func beyond(command, dead int) int {
	switch {
	case command > dead:
		return command - dead
	case command < -dead:
		return command + dead
	}
	return 0
}
