package rules

import (
	"iter"
	"slices"
	"strconv"
	"strings"

	"moonpool/api"
)

// Parsed is what read makes of a string, with the errors of every string that is parsed, and then those of what was read.
func Parsed[T any](s string, read func(s string) (T, bool), errorOf func(T) api.Errno) (T, api.Errno) {
	var none T
	if len(s) > api.MaxString {
		return none, api.ErrLarge
	}
	x, ok := read(s)
	if !ok {
		return none, api.ErrSyntax
	}
	if e := errorOf(x); e != api.OK {
		return none, e
	}
	return x, api.OK
}

// Joined is what is written of items, with a sign between them.
func Joined[T any](l []T, sign string, write func(item T) string) string {
	written := make([]string, len(l))
	for i, item := range l {
		written[i] = write(item)
	}
	return strings.Join(written, sign)
}

// Written is numbers, separated by single blanks.
func Written(numbers ...int) string { return Joined(numbers, " ", strconv.Itoa) }

// itemsOf yields the items of a string that have a sign between them. The empty string has none.
func itemsOf(s, sign string) iter.Seq[string] {
	return func(yield func(item string) bool) {
		if s == "" {
			return
		}
		for _, item := range strings.Split(s, sign) {
			if !yield(item) {
				return
			}
		}
	}
}

// ReadAny reads any number of items that have a sign between them. The empty string has none.
func ReadAny[T any](s, sign string, read func(item string) (T, bool)) ([]T, bool) {
	var l []T
	for item := range itemsOf(s, sign) {
		x, ok := read(item)
		if !ok {
			return nil, false
		}
		l = append(l, x)
	}
	return l, true
}

// ReadSome reads at least one item.
func ReadSome[T any](s, sign string, read func(item string) (T, bool)) ([]T, bool) {
	l, ok := ReadAny(s, sign, read)
	return l, ok && len(l) > 0
}

// NumbersIn reads the numbers of a text of words with single blanks between them, of which there is at least one.
// "-" may precede all but the unsigned ones, which are named by their indexes.
func NumbersIn(text string, digits int, unsigned ...int) ([]int, bool) {
	words := strings.Split(text, " ")
	numbers := make([]int, len(words))
	for i, word := range words {
		n, ok := numberIn(word, digits)
		if !ok || word[0] == '-' && slices.Contains(unsigned, i) {
			return nil, false
		}
		numbers[i] = n
	}
	return numbers, true
}

// CountIn reads one number without a sign.
func CountIn(word string, digits int) (int, bool) {
	n, ok := NumbersIn(word, digits, 0)
	if !ok || len(n) != 1 {
		return 0, false
	}
	return n[0], true
}

// CountsIn reads any number of numbers without a sign, with single blanks between them. The empty text has none.
func CountsIn(text string, digits int) ([]int, bool) {
	return ReadAny(text, " ", func(word string) (int, bool) { return CountIn(word, digits) })
}

// numberIn reads a number itself, because strconv also accepts "+", "-0" and leading zeros.
func numberIn(word string, digits int) (int, bool) {
	rest, minus := strings.CutPrefix(word, "-")
	if minus && rest == "0" {
		return 0, false
	}
	if rest == "" || len(rest) > digits || len(rest) > 1 && rest[0] == '0' {
		return 0, false
	}
	n := 0
	for i := range len(rest) {
		if !isDigit(rest[i]) {
			return 0, false
		}
		n = n*10 + int(rest[i]-'0')
	}
	if minus {
		n = -n
	}
	return n, true
}

func isDigit(c byte) bool { return '0' <= c && c <= '9' }
