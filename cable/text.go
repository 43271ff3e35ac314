package cable

import (
	"strings"

	"moonpool/api"
	"moonpool/rules"
)

// How many digits the numbers of a string have at most.
const (
	lineDigits = 5
	boxDigits  = 2
)

// FormatLine is in P1.8.
func FormatLine(l api.CableLine) string {
	parts := []string{rules.Written(l.Load.X, l.Load.Z)}
	for _, k := range l.Links {
		parts = append(parts, rules.Written(k.Height, k.Weight, k.Drag))
	}
	return strings.Join(parts, ";")
}

// ParseLine is in P1.8.
func ParseLine(s string) (api.CableLine, api.Errno) {
	return rules.Parsed(s, readLine, lineError)
}

// readLine reads any line, valid or not.
func readLine(s string) (api.CableLine, bool) {
	parts := strings.Split(s, ";")
	load, ok := rules.NumbersIn(parts[0], lineDigits)
	if !ok || len(load) != 2 {
		return api.CableLine{}, false
	}
	l := api.CableLine{Load: api.CableForce{X: load[0], Z: load[1]}}
	for _, part := range parts[1:] {
		n, ok := rules.NumbersIn(part, lineDigits, 0, 2)
		if !ok || len(n) != 3 {
			return api.CableLine{}, false
		}
		l.Links = append(l.Links, api.CableLink{Height: n[0], Weight: n[1], Drag: n[2]})
	}
	return l, true
}

// FormatBox is in P1.8.
func FormatBox(b []api.Range) string {
	var ends []int
	for _, r := range b {
		ends = append(ends, r.Lo, r.Hi)
	}
	return rules.Written(ends...)
}

// ParseBox is in P1.8.
func ParseBox(s string) ([]api.Range, api.Errno) {
	if len(s) > api.MaxString {
		return nil, api.ErrLarge
	}
	if s == "" {
		return nil, api.OK
	}
	ends, ok := rules.NumbersIn(s, boxDigits)
	if !ok || len(ends)%2 != 0 {
		return nil, api.ErrSyntax
	}
	var box []api.Range
	for i := 0; i < len(ends); i += 2 {
		box = append(box, api.Range{Lo: ends[i], Hi: ends[i+1]})
	}
	if _, e := rules.FirstBad(box, rules.OrderError); e != api.OK {
		return nil, e
	}
	return box, api.OK
}
