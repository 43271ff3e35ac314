package ship

import (
	"strings"

	"moonpool/api"
	"moonpool/rules"
)

// tickDigits is how many digits MaxTick has.
const tickDigits = 13

// SumOf is in P10.6.
func SumOf(s string, after int) (int, api.Errno) {
	if e := rules.LimitError(after, 0, api.ShipModulus-1); e != api.OK {
		return 0, e
	}
	return sum(s, after), api.OK
}

// Journal is in P10.6.
func Journal(n api.ShipNet, l []api.ShipEntry) (string, api.Errno) {
	if _, e := CheckLog(n, l); e != api.OK {
		return "", e
	}
	journal, after := "", 0
	for _, e := range l {
		line, lineSum := lineOf(e, after)
		journal += line
		after = lineSum
	}
	return journal, api.OK
}

// Recovered is in P10.6.
func Recovered(n api.ShipNet, s string) ([]api.ShipEntry, int, api.Errno) {
	h, e := newHouse(n)
	if e != api.OK {
		return nil, 0, e
	}
	if len(s) > api.MaxString {
		return nil, 0, api.ErrLarge
	}
	size, after := 0, 0
	for {
		x, ok := entryIn(s[size:])
		line, lineSum := lineOf(x, after)
		if !ok || !strings.HasPrefix(s[size:], line) || h.enter(x) != api.OK {
			return h.log, size, api.OK
		}
		size += len(line)
		after = lineSum
	}
}

// sum is the sum of a string after a number.
func sum(s string, after int) int {
	for i := range len(s) {
		after = (after*api.ShipFactor + int(s[i]) + 1) % api.ShipModulus
	}
	return after
}

// lineOf is the line of an entry after the sum of the line before, and its own sum.
func lineOf(e api.ShipEntry, after int) (string, int) {
	written := rules.Written(e.At) + " " + e.By + " " + e.Text
	lineSum := sum(written, after)
	return written + " " + rules.Written(lineSum) + "\n", lineSum
}

// entryIn is the entry with which a journal begins. It is false if there can be none.
// If there is one, the journal begins with its line, which is not examined here.
func entryIn(journal string) (api.ShipEntry, bool) {
	line, _, _ := strings.Cut(journal, "\n")
	tick, rest, _ := strings.Cut(line, " ")
	by, rest, _ := strings.Cut(rest, " ")
	end := strings.LastIndex(rest, " ")
	at, ok := rules.CountIn(tick, tickDigits)
	if !ok || end < 0 {
		return api.ShipEntry{}, false
	}
	return api.ShipEntry{At: at, By: by, Text: rest[:end]}, true
}
