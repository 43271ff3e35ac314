package thrust_test

import (
	"math"
	"strings"
	"testing"

	"moonpool/api"
	"moonpool/thrust"
)

// P3.7, P3.13

const exampleText = "1 0 0 2 -10 10 2;1 0 0 -2 -10 10 2;0 1 0 0 -10 10 2"

func TestFormat(t *testing.T) {
	odd := api.Thruster{Direction: [2]int{math.MinInt, 1}, Place: [2]int{-2, 3}, Limit: api.Range{Lo: 4, Hi: -5}, Dead: math.MaxInt}
	for _, c := range []struct{ got, wanted string }{
		{thrust.FormatThrusters(exampleThrusters()), exampleText},
		{thrust.FormatThrusters(nil), ""},
		{thrust.FormatThrusters(make([]api.Thruster, 1)), "0 0 0 0 0 0 0"},
		{thrust.FormatThrusters([]api.Thruster{odd}), "-9223372036854775808 1 -2 3 4 -5 9223372036854775807"},
		{thrust.FormatSetting([]int{3, 5, -4}), "3 5 -4"},
		{thrust.FormatSetting(nil), ""},
		{thrust.FormatSetting([]int{-1}), "-1"},
		{thrust.FormatSetting([]int{math.MinInt, math.MaxInt}), "-9223372036854775808 9223372036854775807"},
	} {
		if c.got != c.wanted {
			t.Errorf("%q, want %q", c.got, c.wanted)
		}
	}
	many := "0 0 0 0 0 0 0" + strings.Repeat(";0 0 0 0 0 0 0", 4999)
	if thrust.FormatThrusters(make([]api.Thruster, 5000)) != many {
		t.Errorf("many thrusters have another string")
	}
	if thrust.FormatSetting(make([]int, 5000)) != "0"+strings.Repeat(" 0", 4999) {
		t.Errorf("a setting of many numbers has another string")
	}
}

func TestParseThrusters(t *testing.T) {
	l, e := thrust.ParseThrusters(exampleText)
	want(t, "example", l, e, exampleThrusters(), api.OK)
	l, e = thrust.ParseThrusters("-3 3 -5 5 -100 0 100")
	least := api.Thruster{Direction: [2]int{-3, 3}, Place: [2]int{-5, 5}, Limit: api.Range{Lo: -100}, Dead: 100}
	want(t, "one alone", l, e, []api.Thruster{least}, api.OK)
	const one = "1 0 0 2 -10 10 2"
	for _, c := range []struct {
		text string
		err  api.Errno
	}{
		{strings.Repeat("x", 60001), api.ErrLarge},
		{strings.Repeat("x", 60000), api.ErrSyntax},
		{one + strings.Repeat(";"+one, 3529), api.ErrLarge},
		{one + strings.Repeat(" ", 60000), api.ErrLarge},
		{"", api.ErrSyntax},
		{" ", api.ErrSyntax},
		{";", api.ErrSyntax},
		{one + ";", api.ErrSyntax},
		{";" + one, api.ErrSyntax},
		{one + ";;" + one, api.ErrSyntax},
		{one + "; " + one, api.ErrSyntax},
		{one + " ;" + one, api.ErrSyntax},
		{one + " ", api.ErrSyntax},
		{" " + one, api.ErrSyntax},
		{one + " " + one, api.ErrSyntax},
		{one + "\n", api.ErrSyntax},
		{"1 0 0 2 -10 10", api.ErrSyntax},
		{"1 0 0 2 -10 10 2 0", api.ErrSyntax},
		{"1 0 0  2 -10 10 2", api.ErrSyntax},
		{"1 0 0 2 -10 10 ", api.ErrSyntax},
		{"1,0,0,2,-10,10,2", api.ErrSyntax},
		{"1 0 0 2\t-10 10 2", api.ErrSyntax},
		{"1 0 0 2 -10 10 -2", api.ErrSyntax},
		{"1 0 0 2 -10 10 -0", api.ErrSyntax},
		{"-0 1 0 2 -10 10 2", api.ErrSyntax},
		{"01 0 0 2 -10 10 2", api.ErrSyntax},
		{"1 00 0 2 -10 10 2", api.ErrSyntax},
		{"1 0 +0 2 -10 10 2", api.ErrSyntax},
		{"1 0 0 - -10 10 2", api.ErrSyntax},
		{"1 0 0 2 --10 10 2", api.ErrSyntax},
		{"1 0 0 2 -010 10 2", api.ErrSyntax},
		{"10000 0 0 2 -10 10 2", api.ErrSyntax},
		{"1 0 0 2 -10000 10 2", api.ErrSyntax},
		{"1 0 0 2 -10 10 10000", api.ErrSyntax},
		{"1 0 0 2 -10 1x 2", api.ErrSyntax},
		{"1 0 0 2 -10 ٣ 2", api.ErrSyntax},
		{"9999 0 0 2 -10 10 2;x", api.ErrSyntax},
		{one + strings.Repeat(";"+one, 3528) + ";x", api.ErrSyntax},
		{one + strings.Repeat(";"+one, 3528), api.ErrLarge},
		{one + strings.Repeat(";"+one, 5), api.ErrLarge},
		{"9999 0 0 2 -10 10 2" + strings.Repeat(";"+one, 5), api.ErrLarge},
		{"4 0 0 2 -10 10 2", api.ErrRange},
		{"-9999 0 0 2 -10 10 2", api.ErrRange},
		{"1 0 0 -6 -10 10 2", api.ErrRange},
		{"1 0 0 2 -101 10 2", api.ErrRange},
		{"1 0 0 2 -10 101 2", api.ErrRange},
		{"1 0 0 2 -10 10 101", api.ErrRange},
		{"0 0 0 2 -10 10 2", api.ErrZero},
		{"1 0 0 2 1 10 2", api.ErrOrder},
		{"1 0 0 2 -10 -1 2", api.ErrOrder},
		{one + ";0 0 0 2 1 10 2;4 0 0 2 -10 10 2", api.ErrZero},
	} {
		l, e := thrust.ParseThrusters(c.text)
		want(t, "ParseThrusters of "+c.text[:min(len(c.text), 40)], l, e, []api.Thruster(nil), c.err)
	}
}

func TestParseSetting(t *testing.T) {
	for _, c := range []struct {
		text    string
		setting []int
	}{
		{"3 5 -4", []int{3, 5, -4}},
		{"0", []int{0}},
		{"-100 100 0 1 -1", []int{-100, 100, 0, 1, -1}},
	} {
		l, e := thrust.ParseSetting(c.text)
		want(t, "ParseSetting of "+c.text, l, e, c.setting, api.OK)
	}
	for _, c := range []struct {
		text string
		err  api.Errno
	}{
		{strings.Repeat("x", 60001), api.ErrLarge},
		{strings.Repeat("x", 60000), api.ErrSyntax},
		{"0" + strings.Repeat(" 0", 30000), api.ErrLarge},
		{strings.Repeat("0 ", 30000), api.ErrSyntax},
		{"0" + strings.Repeat(" 0", 29999), api.ErrLarge},
		{"", api.ErrSyntax},
		{" ", api.ErrSyntax},
		{"3 5 ", api.ErrSyntax},
		{" 3 5", api.ErrSyntax},
		{"3  5", api.ErrSyntax},
		{"3;5", api.ErrSyntax},
		{"3 5\n", api.ErrSyntax},
		{"3 x", api.ErrSyntax},
		{"3 -0", api.ErrSyntax},
		{"3 -", api.ErrSyntax},
		{"3 --4", api.ErrSyntax},
		{"3 +4", api.ErrSyntax},
		{"3 04", api.ErrSyntax},
		{"3 00", api.ErrSyntax},
		{"3 10000", api.ErrSyntax},
		{"3 -10000", api.ErrSyntax},
		{"3 ٣", api.ErrSyntax},
		{"101 x", api.ErrSyntax},
		{"0 0 0 0 0 x", api.ErrSyntax},
		{"0 0 0 0 0 0", api.ErrLarge},
		{"101 0 0 0 0 0", api.ErrLarge},
		{"101", api.ErrRange},
		{"0 0 -101", api.ErrRange},
		{"9999", api.ErrRange},
		{"0 -9999 0", api.ErrRange},
	} {
		l, e := thrust.ParseSetting(c.text)
		want(t, "ParseSetting of "+c.text[:min(len(c.text), 40)], l, e, []int(nil), c.err)
	}
}

func TestParseReversesFormat(t *testing.T) {
	r := newRandom()
	for range 1000 {
		l := randomThrusters(r, between(r, 1, 5))
		x, e := thrust.ParseThrusters(thrust.FormatThrusters(l))
		want(t, "ParseThrusters", x, e, l, api.OK)
		setting := make([]int, len(l))
		for i := range setting {
			setting[i] = between(r, -100, 100)
		}
		y, e := thrust.ParseSetting(thrust.FormatSetting(setting))
		want(t, "ParseSetting", y, e, setting, api.OK)
	}
}
