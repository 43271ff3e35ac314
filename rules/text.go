package rules

import (
	"slices"
	"strconv"
	"strings"

	"moonpool/api"
)

// Parsed is what read makes of a string, with the errors of every string that is parsed, and then those of what was read.
func Parsed[T any](s string, read func(s string) (T, bool), errorOf func(T) api.Errno) (T, api.Errno) {
	var none T
	if len(s) > api.MaxString {
		return none, api.ErrLarge
	}
	x, ok := read(s)
	if !ok {
		return none, api.ErrSyntax
	}
	if e := errorOf(x); e != api.OK {
		return none, e
	}
	return x, api.OK
}

// Written is numbers, separated by single blanks.
func Written(numbers ...int) string {
	words := make([]string, len(numbers))
	for i, n := range numbers {
		words[i] = strconv.Itoa(n)
	}
	return strings.Join(words, " ")
}

// NumbersIn reads the numbers of a text of words with single blanks between them, of which there is at least one.
// "-" may precede all but the unsigned ones, which are named by their indexes.
func NumbersIn(text string, digits int, unsigned ...int) ([]int, bool) {
	words := strings.Split(text, " ")
	numbers := make([]int, len(words))
	for i, word := range words {
		n, ok := numberIn(word, digits)
		if !ok || word[0] == '-' && slices.Contains(unsigned, i) {
			return nil, false
		}
		numbers[i] = n
	}
	return numbers, true
}

// CountIn reads one number without a sign.
func CountIn(word string, digits int) (int, bool) {
	n, ok := NumbersIn(word, digits, 0)
	if !ok || len(n) != 1 {
		return 0, false
	}
	return n[0], true
}

// numberIn reads a number itself, because strconv also accepts "+", "-0" and leading zeros.
func numberIn(word string, digits int) (int, bool) {
	rest, minus := strings.CutPrefix(word, "-")
	if minus && rest == "0" {
		return 0, false
	}
	if rest == "" || len(rest) > digits || len(rest) > 1 && rest[0] == '0' {
		return 0, false
	}
	n := 0
	for i := range len(rest) {
		if !isDigit(rest[i]) {
			return 0, false
		}
		n = n*10 + int(rest[i]-'0')
	}
	if minus {
		n = -n
	}
	return n, true
}

func isDigit(c byte) bool { return '0' <= c && c <= '9' }
