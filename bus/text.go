package bus

import (
	"strconv"
	"strings"

	"moonpool/api"
	"moonpool/rules"
)

// digits is how many digits the numbers of a string have at most.
const digits = 2

// The words of the string of a stream after its name.
const (
	periodWord = iota
	deadlineWord
	lengthWord
	streamWords // how many there are
)

// The sections of the string of a net.
const (
	partsSection = iota
	functionsSection
	modesSection
	netSections // how many there are
)

// FormatStreams is in P7.8.
func FormatStreams(l []api.BusStream) string {
	return rules.Joined(l, ";", func(s api.BusStream) string {
		return s.Name + " " + rules.Written(s.Period, s.Deadline, s.Length)
	})
}

// ParseStreams is in P7.8.
func ParseStreams(s string) ([]api.BusStream, api.Errno) {
	return rules.Parsed(s, readStreams, streamsError)
}

// FormatNet is in P7.8.
func FormatNet(n api.BusNet) string {
	functions := rules.Joined(n.Functions, ";", func(f api.BusFunction) string {
		return f.Name + "=" + rules.Joined(f.Ways, ",", writtenSet)
	})
	modes := rules.Joined(n.Modes, ";", func(m api.BusMode) string { return m.Name + "=" + writtenSet(m.Needs) })
	return strings.Join(n.Parts, ",") + "/" + functions + "/" + modes
}

// ParseNet is in P7.8.
func ParseNet(s string) (api.BusNet, api.Errno) { return rules.Parsed(s, readNet, netError) }

func writtenSet(set []int) string { return rules.Joined(set, "+", strconv.Itoa) }

// readStreams reads any streams, valid or not.
func readStreams(s string) ([]api.BusStream, bool) { return rules.ReadSome(s, ";", readStream) }

func readStream(s string) (api.BusStream, bool) {
	name, rest, _ := strings.Cut(s, " ")
	n, ok := rules.NumbersIn(rest, digits, periodWord, deadlineWord, lengthWord)
	if name == "" || !ok || len(n) != streamWords {
		return api.BusStream{}, false
	}
	return api.BusStream{Name: name, Period: n[periodWord], Deadline: n[deadlineWord], Length: n[lengthWord]}, true
}

// readNet reads any net, valid or not.
func readNet(s string) (api.BusNet, bool) {
	sections := strings.Split(s, "/")
	if len(sections) != netSections {
		return api.BusNet{}, false
	}
	parts, areParts := rules.ReadAny(sections[partsSection], ",", func(name string) (string, bool) { return name, name != "" })
	functions, areFunctions := rules.ReadAny(sections[functionsSection], ";", readFunction)
	modes, areModes := rules.ReadAny(sections[modesSection], ";", readMode)
	if !areParts || !areFunctions || !areModes {
		return api.BusNet{}, false
	}
	return api.BusNet{Parts: parts, Functions: functions, Modes: modes}, true
}

func readFunction(s string) (api.BusFunction, bool) {
	name, ways, isNamed := cutName(s)
	l, ok := rules.ReadSome(ways, ",", func(way string) ([]int, bool) { return rules.ReadSome(way, "+", readIndex) })
	return api.BusFunction{Name: name, Ways: l}, isNamed && ok
}

func readMode(s string) (api.BusMode, bool) {
	name, needs, isNamed := cutName(s)
	l, ok := rules.ReadAny(needs, "+", readIndex)
	return api.BusMode{Name: name, Needs: l}, isNamed && ok
}

// cutName cuts the name off that stands before "=". It is false if there is none. Behind it another "=" is part of no number, so that it is found there.
func cutName(s string) (name, rest string, ok bool) {
	name, rest, ok = strings.Cut(s, "=")
	return name, rest, ok && name != ""
}

func readIndex(s string) (int, bool) { return rules.CountIn(s, digits) }
