package cable

import (
	"slices"
	"strconv"
	"strings"

	"moonpool/api"
)

// How many digits the numbers of a string have at most.
const (
	lineDigits = 5
	boxDigits  = 2
)

// FormatLine is in P1.8.
func FormatLine(l api.CableLine) string {
	parts := []string{written(l.Load.X, l.Load.Z)}
	for _, k := range l.Links {
		parts = append(parts, written(k.Height, k.Weight, k.Drag))
	}
	return strings.Join(parts, ";")
}

// ParseLine is in P1.8.
func ParseLine(s string) (api.CableLine, api.Errno) {
	if len(s) > api.MaxString {
		return api.CableLine{}, api.ErrLarge
	}
	l, ok := readLine(s)
	if !ok {
		return api.CableLine{}, api.ErrSyntax
	}
	if e := lineError(l); e != api.OK {
		return api.CableLine{}, e
	}
	return l, api.OK
}

// readLine reads any line, valid or not.
func readLine(s string) (api.CableLine, bool) {
	parts := strings.Split(s, ";")
	load, ok := numbersIn(parts[0], lineDigits, true, true)
	if !ok {
		return api.CableLine{}, false
	}
	l := api.CableLine{Load: api.CableForce{X: load[0], Z: load[1]}}
	for _, part := range parts[1:] {
		n, ok := numbersIn(part, lineDigits, false, true, false)
		if !ok {
			return api.CableLine{}, false
		}
		l.Links = append(l.Links, api.CableLink{Height: n[0], Weight: n[1], Drag: n[2]})
	}
	return l, true
}

// FormatBox is in P1.8.
func FormatBox(b []api.Range) string {
	var ends []int
	for _, r := range b {
		ends = append(ends, r.Lo, r.Hi)
	}
	return written(ends...)
}

// ParseBox is in P1.8.
func ParseBox(s string) ([]api.Range, api.Errno) {
	if len(s) > api.MaxString {
		return nil, api.ErrLarge
	}
	if s == "" {
		return nil, api.OK
	}
	words := strings.Count(s, " ") + 1
	ends, ok := numbersIn(s, boxDigits, slices.Repeat([]bool{true}, words)...)
	if !ok || words%2 != 0 {
		return nil, api.ErrSyntax
	}
	var box []api.Range
	for i := 0; i < len(ends); i += 2 {
		box = append(box, api.Range{Lo: ends[i], Hi: ends[i+1]})
	}
	if _, e := firstBad(box, orderError); e != api.OK {
		return nil, e
	}
	return box, api.OK
}

// written is numbers, separated by single blanks.
func written(numbers ...int) string {
	words := make([]string, len(numbers))
	for i, n := range numbers {
		words[i] = strconv.Itoa(n)
	}
	return strings.Join(words, " ")
}

// numbersIn fills a list with the numbers of a text of as many words as signed says, and whether "-" may precede each of them.
func numbersIn(text string, digits int, signed ...bool) ([]int, bool) {
	words := strings.Split(text, " ")
	if len(words) != len(signed) {
		return nil, false
	}
	numbers := make([]int, len(words))
	for i, word := range words {
		n, ok := numberIn(word, digits, signed[i])
		if !ok {
			return nil, false
		}
		numbers[i] = n
	}
	return numbers, true
}

// numberIn reads a number itself, because strconv also accepts "+", "-0" and leading zeros.
func numberIn(word string, digits int, signed bool) (int, bool) {
	rest, minus := strings.CutPrefix(word, "-")
	if minus && (!signed || rest == "0") {
		return 0, false
	}
	if rest == "" || len(rest) > digits || len(rest) > 1 && rest[0] == '0' {
		return 0, false
	}
	n := 0
	for i := range len(rest) {
		if rest[i] < '0' || rest[i] > '9' {
			return 0, false
		}
		n = n*10 + int(rest[i]-'0')
	}
	if minus {
		n = -n
	}
	return n, true
}
