package winch_test

import (
	"math"
	"strings"
	"testing"

	"moonpool/api"
	"moonpool/winch"
)

// P2.7, P2.14

func TestFormat(t *testing.T) {
	for _, c := range []struct{ got, wanted string }{
		{winch.FormatSamples(exampleSamples()), "1 1 2 3 4"},
		{winch.FormatSamples(nil), ""},
		{winch.FormatSamples([]int{-7}), "-7"},
		{winch.FormatSamples([]int{math.MinInt, math.MaxInt, 0}), "-9223372036854775808 9223372036854775807 0"},
		{winch.FormatLoop(exampleLoop()), "-1 1 1 2 -2 -1 0 1 2"},
		{winch.FormatLoop(api.WinchLoop{}), "0 0 0 0"},
		{winch.FormatLoop(api.WinchLoop{Table: []int{5, -1000}, Sea: api.Range{Lo: 9, Hi: math.MinInt}, Turn: -3, Slew: -4}), "9 -9223372036854775808 -3 -4 5 -1000"},
	} {
		if c.got != c.wanted {
			t.Errorf("%q, want %q", c.got, c.wanted)
		}
	}
	if got := winch.FormatSamples(make([]int, 5000)); got != "0"+strings.Repeat(" 0", 4999) {
		t.Errorf("many samples have another string")
	}
}

func TestParseSamples(t *testing.T) {
	l, e := winch.ParseSamples("1 1 2 3 4")
	want(t, "example", l, e, exampleSamples(), api.OK)
	l, e = winch.ParseSamples("-100 100 0 -1")
	want(t, "the greatest heights", l, e, []int{-100, 100, 0, -1}, api.OK)
	for _, c := range []struct {
		text string
		err  api.Errno
	}{
		{strings.Repeat("x", 60001), api.ErrLarge},
		{strings.Repeat("x", 60000), api.ErrSyntax},
		{"0" + strings.Repeat(" 0", 30000), api.ErrLarge},
		{"0" + strings.Repeat(" 0", 29999), api.ErrLarge},
		{strings.Repeat("0 ", 30000), api.ErrSyntax},
		{"", api.ErrSyntax},
		{" ", api.ErrSyntax},
		{"1 2 3 4 ", api.ErrSyntax},
		{" 1 2 3 4", api.ErrSyntax},
		{"1  2 3 4", api.ErrSyntax},
		{"1 2 3 x", api.ErrSyntax},
		{"1 2 x", api.ErrSyntax},
		{"1 2 3 -0", api.ErrSyntax},
		{"1 2 3 -", api.ErrSyntax},
		{"1 2 3 --4", api.ErrSyntax},
		{"1 2 3 +4", api.ErrSyntax},
		{"1 2 3 04", api.ErrSyntax},
		{"1 2 3 00", api.ErrSyntax},
		{"1 2 3 1000", api.ErrSyntax},
		{"1 2 3 -1000", api.ErrSyntax},
		{"1,2,3,4", api.ErrSyntax},
		{"1 2\t3 4", api.ErrSyntax},
		{"1 2 3 4\n", api.ErrSyntax},
		{"1 2 3 4;", api.ErrSyntax},
		{"1 2 3 ٤", api.ErrSyntax},
		{"1 2 3", api.ErrShape},
		{"999", api.ErrShape},
		{"1 2 3 101", api.ErrRange},
		{"1 2 3 -999", api.ErrRange},
		{"0" + strings.Repeat(" 0", 20), api.ErrLarge},
		{"999" + strings.Repeat(" 0", 20), api.ErrLarge},
	} {
		l, e := winch.ParseSamples(c.text)
		want(t, "ParseSamples of "+c.text[:min(len(c.text), 40)], l, e, []int(nil), c.err)
	}
}

func TestParseLoop(t *testing.T) {
	l, e := winch.ParseLoop("-1 1 1 2 -2 -1 0 1 2")
	want(t, "example", l, e, exampleLoop(), api.OK)
	l, e = winch.ParseLoop("0 0 0 0 -10")
	want(t, "one number", l, e, api.WinchLoop{Table: []int{-10}}, api.OK)
	l, e = winch.ParseLoop("-4 4 8 20 10")
	want(t, "the greatest numbers", l, e, api.WinchLoop{Table: []int{10}, Sea: api.Range{Lo: -4, Hi: 4}, Turn: 8, Slew: 20}, api.OK)
	for _, c := range []struct {
		text string
		err  api.Errno
	}{
		{strings.Repeat("x", 60001), api.ErrLarge},
		{strings.Repeat("x", 60000), api.ErrSyntax},
		{"0" + strings.Repeat(" 0", 30000), api.ErrLarge},
		{strings.Repeat("0 ", 30000), api.ErrSyntax},
		{"0 0 0 0" + strings.Repeat(" 0", 29995), api.ErrLarge},
		{"", api.ErrSyntax},
		{"0 0 0 0", api.ErrSyntax},
		{"0 0 0", api.ErrSyntax},
		{"0", api.ErrSyntax},
		{"0 0 0 0 ", api.ErrSyntax},
		{" 0 0 0 0 0", api.ErrSyntax},
		{"0 0  0 0 0", api.ErrSyntax},
		{"0 0 0 0 0 ", api.ErrSyntax},
		{"0 0 0 0 x", api.ErrSyntax},
		{"0 0 -1 0 0", api.ErrSyntax},
		{"0 0 0 -1 0", api.ErrSyntax},
		{"0 0 -0 0 0", api.ErrSyntax},
		{"-0 0 0 0 0", api.ErrSyntax},
		{"0 0 0 0 -0", api.ErrSyntax},
		{"0 0 0 0 +1", api.ErrSyntax},
		{"0 01 0 0 0", api.ErrSyntax},
		{"0 0 0 1000 0", api.ErrSyntax},
		{"0 0 0 0 -1000", api.ErrSyntax},
		{"0;0 0 0 0", api.ErrSyntax},
		{"9 0 9 0 0 x", api.ErrSyntax},
		{"0 0 0 0 0 0", api.ErrShape},
		{"9 9 9 0 11 0", api.ErrShape},
		{"0 0 0 0" + strings.Repeat(" 0", 12), api.ErrShape},
		{"0 0 0 0" + strings.Repeat(" 0", 13), api.ErrLarge},
		{"0 0 0 0 11", api.ErrRange},
		{"0 0 0 0 -999", api.ErrRange},
		{"-5 0 0 0 0", api.ErrRange},
		{"0 5 0 0 0", api.ErrRange},
		{"0 0 9 0 0", api.ErrRange},
		{"0 0 0 21 0", api.ErrRange},
		{"1 2 0 0 0", api.ErrOrder},
		{"-2 -1 0 0 0", api.ErrOrder},
		{"1 -1 0 0 0", api.ErrOrder},
	} {
		l, e := winch.ParseLoop(c.text)
		want(t, "ParseLoop of "+c.text[:min(len(c.text), 40)], l, e, api.WinchLoop{}, c.err)
	}
}

func TestParseReversesFormat(t *testing.T) {
	r := newRandom()
	for range 1000 {
		samples := randomSamples(r)
		x, e := winch.ParseSamples(winch.FormatSamples(samples))
		want(t, "ParseSamples", x, e, samples, api.OK)
		l := randomLoop(r, api.MaxWinchBound)
		y, e := winch.ParseLoop(winch.FormatLoop(l))
		want(t, "ParseLoop", y, e, l, api.OK)
	}
}
