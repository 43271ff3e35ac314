package survey_test

import (
	"fmt"
	"math"
	"slices"
	"strings"
	"testing"

	"moonpool/api"
	"moonpool/survey"
)

// P9.7, P9.17

const (
	stationsText = "0 -10 -8 -5 -4;100 -10 -9 -20 -18;200 -11 -9 -16 -13"
	featuresText = "0 2 0 3 4;10 11 2 5 6"
)

func TestFormatStations(t *testing.T) {
	for _, c := range []struct {
		stations []api.SurveyStation
		text     string
	}{
		{exampleStations(), stationsText},
		{nil, ""},
		{[]api.SurveyStation{stationOf(1, 2, 3, 4, 5)}, "1 2 3 4 5"},
		{[]api.SurveyStation{stationOf(9, 8, 7, 6, 5), stationOf(9, 8, 7, 6, 5)}, "9 8 7 6 5;9 8 7 6 5"},
		{[]api.SurveyStation{stationOf(math.MinInt, -1, 0, math.MaxInt, 1000000)}, "-9223372036854775808 -1 0 9223372036854775807 1000000"},
		{make([]api.SurveyStation, 5000), "0 0 0 0 0" + strings.Repeat(";0 0 0 0 0", 4999)},
	} {
		if s := survey.FormatStations(c.stations); s != c.text {
			t.Errorf("FormatStations of %v: %q, want %q", c.stations, s, c.text)
		}
	}
}

func TestFormatFeatures(t *testing.T) {
	a, _ := exampleFeatures()
	for _, c := range []struct {
		features []api.SurveyFeature
		text     string
	}{
		{a, featuresText},
		{nil, ""},
		{[]api.SurveyFeature{featureOf(1, 2, 3, 4, 5)}, "1 2 3 4 5"},
		{[]api.SurveyFeature{featureOf(9, 8, -7, 6, 5), featureOf(0, 0, 0, 0, 0)}, "9 8 -7 6 5;0 0 0 0 0"},
		{[]api.SurveyFeature{featureOf(math.MinInt, -1, 0, math.MaxInt, 1000000)}, "-9223372036854775808 -1 0 9223372036854775807 1000000"},
		{make([]api.SurveyFeature, 5000), "0 0 0 0 0" + strings.Repeat(";0 0 0 0 0", 4999)},
	} {
		if s := survey.FormatFeatures(c.features); s != c.text {
			t.Errorf("FormatFeatures of %v: %q, want %q", c.features, s, c.text)
		}
	}
}

func short(text string) string { return text[:min(len(text), 60)] }

func TestParseStations(t *testing.T) {
	for _, c := range []struct {
		text     string
		stations []api.SurveyStation
	}{
		{stationsText, exampleStations()},
		{"", nil},
		{"0 0 0 0 0", make([]api.SurveyStation, 1)},
		{"0 -10000 -10000 -10000 -10000;100000 10000 10000 10000 10000", []api.SurveyStation{stationOf(0, -10000, -10000, -10000, -10000), stationOf(100000, 10000, 10000, 10000, 10000)}},
	} {
		l, e := survey.ParseStations(c.text)
		want(t, "ParseStations of "+short(c.text), l, e, c.stations, api.OK)
	}
	for _, c := range []struct {
		text string
		err  api.Errno
	}{
		{strings.Repeat("x", 60001), api.ErrLarge},
		{strings.Repeat("x", 60000), api.ErrSyntax},
		{"10 0 0 0 0" + strings.Repeat(";0 0 0 0 0", 5998) + ";0 0 0 0 x", api.ErrSyntax},
		{"100 0 0 0 0" + strings.Repeat(";0 0 0 0 0", 5998) + ";0 0 0 0 x", api.ErrLarge},
		{"10 0 0 0 0" + strings.Repeat(";0 0 0 0 0", 5999), api.ErrLarge},
		{"1 0 0 0 0" + strings.Repeat(";1 0 0 0 0", 20), api.ErrLarge},
		{"1 0 0 0 0" + strings.Repeat(";1 0 0 0 0", 20) + ";", api.ErrSyntax},
		{"100001 0 0 0 0", api.ErrRange},
		{"999999 0 0 0 0", api.ErrRange},
		{"0 -10001 0 0 0", api.ErrRange},
		{"0 0 10001 0 0", api.ErrRange},
		{"0 0 0 -999999 0", api.ErrRange},
		{"0 0 0 0 999999", api.ErrRange},
		{"1 2 1 0 0", api.ErrOrder},
		{"1 0 0 -3 -4", api.ErrOrder},
		{"1 0 0 0 0;1 0 0 0 0", api.ErrOrder},
		{"2 0 0 0 0;1 0 0 0 0", api.ErrOrder},
		{"100001 0 0 0 0;x", api.ErrSyntax},
	} {
		l, e := survey.ParseStations(c.text)
		want(t, "ParseStations of "+short(c.text), l, e, "[]", c.err)
	}
}

func TestParseFeatures(t *testing.T) {
	a, _ := exampleFeatures()
	for _, c := range []struct {
		text     string
		features []api.SurveyFeature
	}{
		{featuresText, a},
		{"", nil},
		{"0 0 0 0 0;0 0 0 0 0", make([]api.SurveyFeature, 2)},
		{"100000 100000 2 10000 10000", []api.SurveyFeature{featureOf(100000, 100000, 2, 10000, 10000)}},
	} {
		l, e := survey.ParseFeatures(c.text)
		want(t, "ParseFeatures of "+short(c.text), l, e, c.features, api.OK)
	}
	for _, c := range []struct {
		text string
		err  api.Errno
	}{
		{strings.Repeat("x", 60001), api.ErrLarge},
		{strings.Repeat("x", 60000), api.ErrSyntax},
		{"0 0 0 0 0" + strings.Repeat(";0 0 0 0 0", 8), api.ErrLarge},
		{"0 0 0 0 0" + strings.Repeat(";0 0 0 0 0", 8) + ";", api.ErrSyntax},
		{"0 0 0 0 x" + strings.Repeat(";0 0 0 0 0", 5999), api.ErrSyntax},
		{"10 10 0 0 x" + strings.Repeat(";0 0 0 0 0", 5999), api.ErrLarge},
		{"0 100001 0 0 0", api.ErrRange},
		{"999999 0 0 0 0", api.ErrRange},
		{"0 0 0 10001 0", api.ErrRange},
		{"0 0 0 0 10001", api.ErrRange},
		{"2 1 0 0 0", api.ErrOrder},
		{"0 0 0 4 3", api.ErrOrder},
		{"0 0 3 0 0", api.ErrKind},
		{"0 0 999999 0 0", api.ErrKind},
		{"5 5 0 0 0;4 5 0 0 0", api.ErrOrder},
		{"0 0 3 0 0;x", api.ErrSyntax},
	} {
		l, e := survey.ParseFeatures(c.text)
		want(t, "ParseFeatures of "+short(c.text), l, e, "[]", c.err)
	}
}

// badNumbers stand for a number of at most 6 digits, and make a string malformed.
func badNumbers() []string {
	return []string{"", "-", "--1", "-0", "+1", "00", "01", "-01", "1000000", "-1000000", "0000000", "x", "1x", "x1", "1.5", "٣", "1\n", "\t1", "0x1", "1-1", "1_1", "1,1"}
}

// malformed are texts of which five words should be one item.
func malformed() []string {
	texts := []string{
		" ", ";", "0", "0 0 0 0", "0 0 0 0 0 0", "0 0 0 0 0 ", " 0 0 0 0 0", "0  0 0 0 0", "0 0 0 0  0", "0\t0\t0\t0\t0", "0,0,0,0,0", "0 0 0 0 0/", "0 0 0;0 0",
	}
	for i := range 5 {
		for _, bad := range badNumbers() {
			words := strings.Fields("0 0 0 0 0")
			words[i] = bad
			texts = append(texts, strings.Join(words, " "))
		}
	}
	return texts
}

// around are texts with an item alone, before, behind and between other ones.
func around(item string) []string {
	return []string{item, item + ";7 0 0 0 0", "7 0 0 0 0;" + item, "7 0 0 0 0;" + item + ";8 0 0 0 0"}
}

func TestParseMalformedTexts(t *testing.T) {
	texts := []string{"7 0 0 0 0;", ";7 0 0 0 0", "7 0 0 0 0;;8 0 0 0 0"}
	for _, bad := range malformed() {
		texts = append(texts, around(bad)...)
	}
	for _, text := range texts {
		stations, e := survey.ParseStations(text)
		want(t, fmt.Sprintf("ParseStations of %q", text), stations, e, "[]", api.ErrSyntax)
		features, e := survey.ParseFeatures(text)
		want(t, fmt.Sprintf("ParseFeatures of %q", text), features, e, "[]", api.ErrSyntax)
	}
	for i := range 5 {
		words := strings.Fields("0 0 0 0 0")
		words[i] = "-1"
		text := strings.Join(words, " ")
		l, e := survey.ParseFeatures(text)
		want(t, fmt.Sprintf("ParseFeatures of %q", text), l, e, "[]", api.ErrSyntax)
		_, e = survey.ParseStations(text)
		if isSyntax := i == 0; isSyntax != (e == api.ErrSyntax) {
			t.Errorf("ParseStations of %q: error %d", text, e)
		}
	}
}

func TestParseReversesFormat(t *testing.T) {
	r := newRandom()
	for range 2000 {
		l := randomStations(r, 20)
		stations, e := survey.ParseStations(survey.FormatStations(l))
		want(t, "ParseStations", stations, e, l, api.OK)
		f := randomFeatures(r, 8)
		for i := range f {
			f[i].At.Hi = between(r, f[i].At.Lo, 100000)
			f[i].Size = randomRange(r, 0, 10000)
		}
		features, e := survey.ParseFeatures(survey.FormatFeatures(f))
		want(t, "ParseFeatures", features, e, f, api.OK)
		if text := survey.FormatFeatures(features); !slices.Equal(f, features) || strings.Count(text, " ") != 4*len(f) {
			t.Errorf("the string of %v is %q", f, text)
		}
	}
}
