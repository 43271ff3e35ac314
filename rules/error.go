// Package rules has what the document says for all chapters: which error is the first one, lists, indexes, kinds, sizes and limits of numbers, ranges, names, strings that are parsed, their items and numbers in them, minimum sets, lowest terms, and quotients rounded down and up.
package rules

import (
	"slices"

	"moonpool/api"
)

// FirstError is the first of errors that is not OK, or OK.
func FirstError(errors ...api.Errno) api.Errno {
	for _, e := range errors {
		if e != api.OK {
			return e
		}
	}
	return api.OK
}

// FirstBad finds the first item that has an error: its index, and the error.
func FirstBad[T any](items []T, errorOf func(T) api.Errno) (int, api.Errno) {
	for i, item := range items {
		if e := errorOf(item); e != api.OK {
			return i, e
		}
	}
	return 0, api.OK
}

// CheckList checks how many items a list has, from least to most, and then each item: the index of the first one that has an error (0 if no item is concerned), and the error.
func CheckList[T any](items []T, least, most int, errorOf func(T) api.Errno) (int, api.Errno) {
	if len(items) < least {
		return 0, api.ErrShape
	}
	if len(items) > most {
		return 0, api.ErrLarge
	}
	return FirstBad(items, errorOf)
}

// IndexError is ErrMissing if none of so many items has this index.
func IndexError(index, count int) api.Errno {
	if index < 0 || index >= count {
		return api.ErrMissing
	}
	return api.OK
}

// KindError is ErrKind if a kind is none of so many, which are the numbers from 0 on.
func KindError(kind, count int) api.Errno {
	if kind < 0 || kind >= count {
		return api.ErrKind
	}
	return api.OK
}

// RisingErrors makes the function that finds the errors of numbers one after another: ErrOrder if one is not greater than the one before.
func RisingErrors() func(n int) api.Errno {
	isFirst, before := true, 0
	return func(n int) api.Errno {
		isRising := isFirst || n > before
		isFirst, before = false, n
		if !isRising {
			return api.ErrOrder
		}
		return api.OK
	}
}

// SetErrors makes the function that finds the errors of the indexes of a set one after another: ErrMissing if none of so many items has one, ErrOrder if it is not greater than the one before.
func SetErrors(count int) func(index int) api.Errno {
	risingError := RisingErrors()
	return func(index int) api.Errno { return FirstError(IndexError(index, count), risingError(index)) }
}

// DistinctErrors makes the function that finds the errors of indexes one after another: ErrMissing if none of so many items has one, ErrDouble if it was one before.
func DistinctErrors(count int) func(index int) api.Errno {
	var earlier []int
	return func(index int) api.Errno {
		if e := IndexError(index, count); e != api.OK {
			return e
		}
		if slices.Contains(earlier, index) {
			return api.ErrDouble
		}
		earlier = append(earlier, index)
		return api.OK
	}
}

// Within is whether a number is at most most in size. The least int has no size that is an int, so that none is taken.
func Within(n, most int) bool { return -most <= n && n <= most }

// SizeError is ErrRange if any of the numbers is greater in size than most.
func SizeError(most int, numbers ...int) api.Errno {
	for _, n := range numbers {
		if !Within(n, most) {
			return api.ErrRange
		}
	}
	return api.OK
}

// LimitError is ErrRange if a number is not from least to most.
func LimitError(n, least, most int) api.Errno {
	if n < least || n > most {
		return api.ErrRange
	}
	return api.OK
}

// LimitsError is ErrRange if any of the numbers is not from least to most.
func LimitsError(least, most int, numbers ...int) api.Errno {
	_, e := FirstBad(numbers, func(n int) api.Errno { return LimitError(n, least, most) })
	return e
}

// LowestError is ErrForm if a fraction is not in lowest terms with a denominator above 0.
func LowestError(f api.Frac) api.Errno {
	if f.Den <= 0 || Divisor(f.Num, f.Den) != 1 {
		return api.ErrForm
	}
	return api.OK
}
