package cable_test

import (
	"math"
	"strings"
	"testing"

	"moonpool/api"
	"moonpool/cable"
)

// P1.8, P1.15

func TestFormat(t *testing.T) {
	for _, c := range []struct{ got, wanted string }{
		{cable.FormatLine(exampleLine()), "0 100;10 20 3;10 -20 5;5 0 0"},
		{cable.FormatLine(api.CableLine{}), "0 0"},
		{cable.FormatLine(api.CableLine{Load: api.CableForce{X: math.MinInt, Z: math.MaxInt}, Links: []api.CableLink{{Height: -1, Weight: -2, Drag: -3}}}),
			"-9223372036854775808 9223372036854775807;-1 -2 -3"},
		{cable.FormatBox(exampleBox()), "2 4 -2 0 0 9"},
		{cable.FormatBox(nil), ""},
		{cable.FormatBox([]api.Range{{Lo: math.MaxInt, Hi: math.MinInt}}), "9223372036854775807 -9223372036854775808"},
	} {
		if c.got != c.wanted {
			t.Errorf("%q, want %q", c.got, c.wanted)
		}
	}
	many := strings.Repeat(";0 0 0", 5000)
	if got := cable.FormatLine(api.CableLine{Links: make([]api.CableLink, 5000)}); got != "0 0"+many {
		t.Errorf("a line of many links has another string")
	}
}

func TestParseLine(t *testing.T) {
	l, e := cable.ParseLine("0 100;10 20 3;10 -20 5;5 0 0")
	want(t, "example", l, e, exampleLine(), api.OK)
	l, e = cable.ParseLine("-10000 -9999;1000 -1000 20")
	least := api.CableLine{Load: api.CableForce{X: -10000, Z: -9999}, Links: []api.CableLink{{Height: 1000, Weight: -1000, Drag: 20}}}
	want(t, "negative numbers", l, e, least, api.OK)
}

func TestParseLineErrors(t *testing.T) {
	large := "0 0" + strings.Repeat(";1 0 0", 10000)
	for _, c := range []struct {
		text string
		err  api.Errno
	}{
		{strings.Repeat("x", 60001), api.ErrLarge},
		{strings.Repeat("x", 60000), api.ErrSyntax},
		{"0 0;1 0 0" + strings.Repeat(" ", 59992), api.ErrLarge},
		{large[:60000-3], api.ErrLarge},
		{large[:60000], api.ErrSyntax},
		{large, api.ErrLarge},
		{"", api.ErrSyntax},
		{";", api.ErrSyntax},
		{"0", api.ErrSyntax},
		{"0 0 0;1 0 0", api.ErrSyntax},
		{"0;1 0 0", api.ErrSyntax},
		{";1 0 0", api.ErrSyntax},
		{"0 0;", api.ErrSyntax},
		{"0 0;1 0 0;", api.ErrSyntax},
		{"0 0;;1 0 0", api.ErrSyntax},
		{"0 0;1 0", api.ErrSyntax},
		{"0 0;1 0 0 0", api.ErrSyntax},
		{"0  0;1 0 0", api.ErrSyntax},
		{" 0 0;1 0 0", api.ErrSyntax},
		{"0 0 ;1 0 0", api.ErrSyntax},
		{"0 0; 1 0 0", api.ErrSyntax},
		{"0 0;1 0 ", api.ErrSyntax},
		{"0 0;1\t0 0", api.ErrSyntax},
		{"0 0;1 0 0\n", api.ErrSyntax},
		{"00 0;1 0 0", api.ErrSyntax},
		{"01 0;1 0 0", api.ErrSyntax},
		{"-0 0;1 0 0", api.ErrSyntax},
		{"0 -01;1 0 0", api.ErrSyntax},
		{"--1 0;1 0 0", api.ErrSyntax},
		{"- 0;1 0 0", api.ErrSyntax},
		{"+1 0;1 0 0", api.ErrSyntax},
		{"0 0;-1 0 0", api.ErrSyntax},
		{"0 0;1 0 -1", api.ErrSyntax},
		{"0 0;1 -0 0", api.ErrSyntax},
		{"100000 0;1 0 0", api.ErrSyntax},
		{"0 -100000;1 0 0", api.ErrSyntax},
		{"0 0;1 0 100000", api.ErrSyntax},
		{"a 0;1 0 0", api.ErrSyntax},
		{"0 0;1 0x0 0", api.ErrSyntax},
		{"0 0;1 ٣ 0", api.ErrSyntax},
		{"0 0;1 0 1:", api.ErrSyntax},
		{"0 0;1 0 1/", api.ErrSyntax},
		{"99999 0;1 0 x", api.ErrSyntax},
		{"0 100", api.ErrShape},
		{"10001 0", api.ErrRange},
		{"0 -10001;1 0 0", api.ErrRange},
		{"99999 0;1 0 0", api.ErrRange},
		{"0 0" + strings.Repeat(";1 0 0", 11), api.ErrLarge},
		{"0 0" + strings.Repeat(";0 0 0", 11), api.ErrLarge},
		{"0 0;0 0 0", api.ErrRange},
		{"0 0;1001 0 0", api.ErrRange},
		{"0 0;1 -1001 0", api.ErrRange},
		{"0 0;1 0 21", api.ErrRange},
	} {
		l, e := cable.ParseLine(c.text)
		want(t, "ParseLine of "+c.text[:min(len(c.text), 40)], l, e, api.CableLine{}, c.err)
	}
}

func TestParseBox(t *testing.T) {
	b, e := cable.ParseBox("2 4 -2 0 0 9")
	want(t, "example", b, e, exampleBox(), api.OK)
	b, e = cable.ParseBox("")
	want(t, "no ranges", b, e, []api.Range(nil), api.OK)
	b, e = cable.ParseBox("-99 99")
	want(t, "two digits", b, e, []api.Range{{Lo: -99, Hi: 99}}, api.OK)
	b, e = cable.ParseBox(strings.Repeat("0 1 ", 14999) + "0 10")
	want(t, "many ranges", len(b), e, 15000, api.OK)
}

func TestParseBoxErrors(t *testing.T) {
	for _, c := range []struct {
		text string
		err  api.Errno
	}{
		{strings.Repeat("x", 60001), api.ErrLarge},
		{strings.Repeat("x", 60000), api.ErrSyntax},
		{strings.Repeat("0 1 ", 15000) + "0", api.ErrLarge},
		{" ", api.ErrSyntax},
		{"1", api.ErrSyntax},
		{"1 2 3", api.ErrSyntax},
		{"1  2", api.ErrSyntax},
		{"1 2 ", api.ErrSyntax},
		{" 1 2", api.ErrSyntax},
		{"1 2  3 4", api.ErrSyntax},
		{"100 101", api.ErrSyntax},
		{"-100 0", api.ErrSyntax},
		{"00 1", api.ErrSyntax},
		{"-0 1", api.ErrSyntax},
		{"0 01", api.ErrSyntax},
		{"- 1", api.ErrSyntax},
		{"+1 2", api.ErrSyntax},
		{"1;2", api.ErrSyntax},
		{"1 a", api.ErrSyntax},
		{"3 1 2", api.ErrSyntax},
		{"3 1 2 x", api.ErrSyntax},
		{"3 1", api.ErrOrder},
		{"1 3 0 -1", api.ErrOrder},
	} {
		b, e := cable.ParseBox(c.text)
		want(t, "ParseBox of "+c.text[:min(len(c.text), 40)], b, e, []api.Range(nil), c.err)
	}
}

func TestParseReversesFormat(t *testing.T) {
	r := newRandom()
	for range 500 {
		l := randomLine(r)
		x, e := cable.ParseLine(cable.FormatLine(l))
		want(t, "ParseLine", x, e, l, api.OK)
		b := randomBox(r, r.IntN(12))
		y, e := cable.ParseBox(cable.FormatBox(b))
		want(t, "ParseBox", y, e, b, api.OK)
	}
	l, _ := extremes()
	x, e := cable.ParseLine(cable.FormatLine(l))
	want(t, "the greatest line", x, e, l, api.OK)
}
