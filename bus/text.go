package bus

import (
	"iter"
	"strconv"
	"strings"

	"moonpool/api"
	"moonpool/rules"
)

// digits is how many digits the numbers of a string have at most.
const digits = 2

// The words of the string of a stream after its name.
const (
	periodWord = iota
	deadlineWord
	lengthWord
	streamWords // how many there are
)

// The sections of the string of a net.
const (
	partsSection = iota
	functionsSection
	modesSection
	netSections // how many there are
)

// FormatStreams is in P7.8.
func FormatStreams(l []api.BusStream) string {
	return joined(l, ";", func(s api.BusStream) string {
		return s.Name + " " + rules.Written(s.Period, s.Deadline, s.Length)
	})
}

// ParseStreams is in P7.8.
func ParseStreams(s string) ([]api.BusStream, api.Errno) {
	return rules.Parsed(s, readStreams, streamsError)
}

// FormatNet is in P7.8.
func FormatNet(n api.BusNet) string {
	functions := joined(n.Functions, ";", func(f api.BusFunction) string {
		return f.Name + "=" + joined(f.Ways, ",", writtenSet)
	})
	modes := joined(n.Modes, ";", func(m api.BusMode) string { return m.Name + "=" + writtenSet(m.Needs) })
	return strings.Join(n.Parts, ",") + "/" + functions + "/" + modes
}

// ParseNet is in P7.8.
func ParseNet(s string) (api.BusNet, api.Errno) { return rules.Parsed(s, readNet, netError) }

// joined is what is written of items, with a sign between them.
func joined[T any](l []T, sign string, write func(item T) string) string {
	written := make([]string, len(l))
	for i, item := range l {
		written[i] = write(item)
	}
	return strings.Join(written, sign)
}

func writtenSet(set []int) string { return joined(set, "+", strconv.Itoa) }

// itemsOf yields the items of a string that have a sign between them. The empty string has none.
func itemsOf(s, sign string) iter.Seq[string] {
	return func(yield func(item string) bool) {
		if s == "" {
			return
		}
		for _, item := range strings.Split(s, sign) {
			if !yield(item) {
				return
			}
		}
	}
}

// readAny reads any number of items that have a sign between them.
func readAny[T any](s, sign string, read func(item string) (T, bool)) ([]T, bool) {
	var l []T
	for item := range itemsOf(s, sign) {
		x, ok := read(item)
		if !ok {
			return nil, false
		}
		l = append(l, x)
	}
	return l, true
}

// readSome reads at least one item.
func readSome[T any](s, sign string, read func(item string) (T, bool)) ([]T, bool) {
	l, ok := readAny(s, sign, read)
	return l, ok && len(l) > 0
}

// readStreams reads any streams, valid or not.
func readStreams(s string) ([]api.BusStream, bool) { return readSome(s, ";", readStream) }

func readStream(s string) (api.BusStream, bool) {
	name, rest, _ := strings.Cut(s, " ")
	n, ok := rules.NumbersIn(rest, digits, periodWord, deadlineWord, lengthWord)
	if name == "" || !ok || len(n) != streamWords {
		return api.BusStream{}, false
	}
	return api.BusStream{Name: name, Period: n[periodWord], Deadline: n[deadlineWord], Length: n[lengthWord]}, true
}

// readNet reads any net, valid or not.
func readNet(s string) (api.BusNet, bool) {
	sections := strings.Split(s, "/")
	if len(sections) != netSections {
		return api.BusNet{}, false
	}
	parts, areParts := readAny(sections[partsSection], ",", func(name string) (string, bool) { return name, name != "" })
	functions, areFunctions := readAny(sections[functionsSection], ";", readFunction)
	modes, areModes := readAny(sections[modesSection], ";", readMode)
	if !areParts || !areFunctions || !areModes {
		return api.BusNet{}, false
	}
	return api.BusNet{Parts: parts, Functions: functions, Modes: modes}, true
}

func readFunction(s string) (api.BusFunction, bool) {
	name, ways, isNamed := cutName(s)
	l, ok := readSome(ways, ",", func(way string) ([]int, bool) { return readSome(way, "+", readIndex) })
	return api.BusFunction{Name: name, Ways: l}, isNamed && ok
}

func readMode(s string) (api.BusMode, bool) {
	name, needs, isNamed := cutName(s)
	l, ok := readAny(needs, "+", readIndex)
	return api.BusMode{Name: name, Needs: l}, isNamed && ok
}

// cutName cuts the name off that stands before "=". It is false if there is none. Behind it another "=" is part of no number, so that it is found there.
func cutName(s string) (name, rest string, ok bool) {
	name, rest, ok = strings.Cut(s, "=")
	return name, rest, ok && name != ""
}

func readIndex(s string) (int, bool) { return rules.CountIn(s, digits) }
