package rules

import (
	"slices"

	"moonpool/api"
)

// NameError is ErrName if a string is not a name.
func NameError(s string) api.Errno {
	if !isName(s) {
		return api.ErrName
	}
	return api.OK
}

// NameErrors makes the function that finds the errors of names one after another: ErrName if one is no name, and the error for those that were one before.
func NameErrors(twice api.Errno) func(name string) api.Errno {
	var earlier []string
	return func(name string) api.Errno {
		if e := NameError(name); e != api.OK {
			return e
		}
		if slices.Contains(earlier, name) {
			return twice
		}
		earlier = append(earlier, name)
		return api.OK
	}
}

// isName is whether a string is a name.
func isName(s string) bool {
	if s == "" || len(s) > api.MaxName || !isLetter(s[0]) {
		return false
	}
	for i := range len(s) {
		if c := s[i]; !isLetter(c) && !isDigit(c) && c != '-' {
			return false
		}
	}
	return true
}

func isLetter(c byte) bool { return 'a' <= c && c <= 'z' || 'A' <= c && c <= 'Z' }
