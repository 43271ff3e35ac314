package rules_test

import (
	"testing"

	"moonpool/api"
	"moonpool/rules"
)

// Terms: name

func TestNameError(t *testing.T) {
	for _, c := range []struct {
		name string
		err  api.Errno
	}{
		{"a", api.OK},
		{"Z", api.OK},
		{"z-9", api.OK},
		{"A0123456789-", api.OK},
		{"a--", api.OK},
		{"", api.ErrName},
		{"A0123456789-b", api.ErrName},
		{"9", api.ErrName},
		{"-a", api.ErrName},
		{"a b", api.ErrName},
		{"a_", api.ErrName},
		{"a@", api.ErrName},
		{"a[", api.ErrName},
		{"a`", api.ErrName},
		{"a{", api.ErrName},
		{"a/", api.ErrName},
		{"a:", api.ErrName},
		{"@a", api.ErrName},
		{"{a", api.ErrName},
		{"é", api.ErrName},
		{"aé", api.ErrName},
		{"a\x00", api.ErrName},
		{"a\n", api.ErrName},
	} {
		if e := rules.NameError(c.name); e != c.err {
			t.Errorf("the name %q: %d, want %d", c.name, e, c.err)
		}
		if e := rules.NameErrors(api.ErrExists)(c.name); e != c.err {
			t.Errorf("the first name %q: %d, want %d", c.name, e, c.err)
		}
	}
}

func TestNameErrorsOfMany(t *testing.T) {
	errorOf := rules.NameErrors(api.ErrExists)
	for i, c := range []struct {
		name string
		err  api.Errno
	}{
		{"a", api.OK},
		{"b", api.OK},
		{"A", api.OK},
		{"a", api.ErrExists},
		{"", api.ErrName},
		{"", api.ErrName},
		{"ab", api.OK},
		{"b", api.ErrExists},
	} {
		if e := errorOf(c.name); e != c.err {
			t.Errorf("the name %d, %q: %d, want %d", i, c.name, e, c.err)
		}
	}
	if e := rules.NameErrors(api.ErrExists)("a"); e != api.OK {
		t.Errorf("names are kept from one function to the next one: %d", e)
	}
	errorOf = rules.NameErrors(api.ErrDouble)
	for i, err := range []api.Errno{api.OK, api.ErrDouble, api.ErrDouble} {
		if e := errorOf("a"); e != err {
			t.Errorf("the name %d that was one before: %d, want %d", i, e, err)
		}
	}
}
