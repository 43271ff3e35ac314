package sonar_test

import (
	"math"
	"slices"
	"strings"
	"testing"

	"moonpool/api"
	"moonpool/sonar"
)

// P4.6, P4.14

const (
	devicesText = "1 2 3;2 1 3;4 2 2"
	sceneText   = "4 2;0 0 3 1 1;0 1 3 1 0"
)

func TestFormat(t *testing.T) {
	odd := api.SonarScene{Wide: -1, High: math.MaxInt, Rays: []api.SonarRay{rayOf(math.MinInt, -2, 3, 4000, true)}}
	for _, c := range []struct{ got, wanted string }{
		{sonar.FormatDevices(exampleDevices()), devicesText},
		{sonar.FormatDevices(nil), ""},
		{sonar.FormatDevices(make([]api.SonarDevice, 1)), "0 0 0"},
		{sonar.FormatDevices([]api.SonarDevice{{Band: math.MinInt, Send: -1, Listen: math.MaxInt}}), "-9223372036854775808 -1 9223372036854775807"},
		{sonar.FormatScene(exampleScene()), sceneText},
		{sonar.FormatScene(api.SonarScene{}), "0 0"},
		{sonar.FormatScene(odd), "-1 9223372036854775807;-9223372036854775808 -2 3 4000 1"},
	} {
		if c.got != c.wanted {
			t.Errorf("%q, want %q", c.got, c.wanted)
		}
	}
	if sonar.FormatDevices(make([]api.SonarDevice, 5000)) != "0 0 0"+strings.Repeat(";0 0 0", 4999) {
		t.Errorf("many devices have another string")
	}
	if sonar.FormatScene(api.SonarScene{Rays: make([]api.SonarRay, 5000)}) != "0 0"+strings.Repeat(";0 0 0 0 0", 5000) {
		t.Errorf("a scene of many rays has another string")
	}
}

// badText is a string that is refused, with the error.
type badText struct {
	text string
	err  api.Errno
}

// malformed are strings that are malformed, made of one that is not: its first word is a digit.
func malformed(good string) []badText {
	rest := good[1:]
	var texts []badText
	for _, text := range []string{
		" " + good, good + " ", good + " 0", strings.Replace(good, " ", "  ", 1), strings.Replace(good, " ", "\t", 1),
		strings.Replace(good, " ", ",", 1), good[2:], rest, "-1" + rest, "-0" + rest, "-" + rest, "+1" + rest, "01" + rest, "00" + rest,
		"1000" + rest, "x" + rest, "1x" + rest, "٣" + rest, good + "\n", "", " ", "-",
	} {
		texts = append(texts, badText{text, api.ErrSyntax})
	}
	return texts
}

func TestParseDevices(t *testing.T) {
	for _, c := range []struct {
		text    string
		devices []api.SonarDevice
	}{
		{devicesText, exampleDevices()},
		{"0 1 0", []api.SonarDevice{{Send: 1}}},
		{"20 10 10;20 10 10", []api.SonarDevice{{Band: 20, Send: 10, Listen: 10}, {Band: 20, Send: 10, Listen: 10}}},
	} {
		l, e := sonar.ParseDevices(c.text)
		want(t, "ParseDevices of "+c.text, l, e, c.devices, api.OK)
	}
	const one = "1 2 3"
	texts := []badText{
		{strings.Repeat("x", 60001), api.ErrLarge},
		{strings.Repeat("x", 60000), api.ErrSyntax},
		{one + strings.Repeat(";"+one, 10000), api.ErrLarge},
		{one + strings.Repeat(";"+one, 9998), api.ErrLarge},
		{one + strings.Repeat(";"+one, 9998) + ";x", api.ErrSyntax},
		{one + strings.Repeat(" ", 60000), api.ErrLarge},
		{one + strings.Repeat(";"+one, 5), api.ErrLarge},
		{"999 0 0" + strings.Repeat(";"+one, 5), api.ErrLarge},
		{one + ";", api.ErrSyntax},
		{";" + one, api.ErrSyntax},
		{one + ";;" + one, api.ErrSyntax},
		{one + " " + one, api.ErrSyntax},
		{one + ";1 2", api.ErrSyntax},
		{"1 -2 3", api.ErrSyntax},
		{"1 2 -3", api.ErrSyntax},
		{"1 2 -0", api.ErrSyntax},
		{"1 2 1000", api.ErrSyntax},
		{"21 1 1;1 2 -3", api.ErrSyntax},
		{"21 1 1", api.ErrRange},
		{"1 0 3", api.ErrRange},
		{"1 11 3", api.ErrRange},
		{"1 2 11", api.ErrRange},
		{one + ";999 999 999", api.ErrRange},
	}
	for _, text := range malformed(one) {
		texts = append(texts, text, badText{one + ";" + text.text, api.ErrSyntax})
	}
	for _, c := range texts {
		l, e := sonar.ParseDevices(c.text)
		want(t, "ParseDevices of "+c.text[:min(len(c.text), 40)], l, e, []api.SonarDevice(nil), c.err)
	}
}

func TestParseScene(t *testing.T) {
	for _, c := range []struct {
		text  string
		scene api.SonarScene
	}{
		{sceneText, exampleScene()},
		{"4 3", api.SonarScene{Wide: 4, High: 3}},
		{"1 1;0 0 0 0 0", api.SonarScene{Wide: 1, High: 1, Rays: make([]api.SonarRay, 1)}},
		{"12 12" + strings.Repeat(";11 0 0 11 1", 10), api.SonarScene{Wide: 12, High: 12, Rays: slices.Repeat([]api.SonarRay{rayOf(11, 0, 0, 11, true)}, 10)}},
	} {
		s, e := sonar.ParseScene(c.text)
		want(t, "ParseScene of "+c.text, s, e, c.scene, api.OK)
	}
	const size, ray = "4 2", "0 0 3 1 1"
	texts := []badText{
		{strings.Repeat("x", 60001), api.ErrLarge},
		{strings.Repeat("x", 60000), api.ErrSyntax},
		{size + strings.Repeat(";"+ray, 6000), api.ErrLarge},
		{size + strings.Repeat(";"+ray, 5999), api.ErrLarge},
		{size + strings.Repeat(";"+ray, 5998) + ";x", api.ErrSyntax},
		{size + strings.Repeat(";"+ray, 11), api.ErrLarge},
		{size + strings.Repeat(";9 9 9 9 1", 11), api.ErrLarge},
		{"13 2" + strings.Repeat(";"+ray, 11), api.ErrRange},
		{size + ";", api.ErrSyntax},
		{";" + ray, api.ErrSyntax},
		{ray, api.ErrSyntax},
		{ray + ";" + size, api.ErrSyntax},
		{size + ";;" + ray, api.ErrSyntax},
		{size + ";" + size, api.ErrSyntax},
		{size + " " + ray, api.ErrSyntax},
		{size + ";" + ray + ";", api.ErrSyntax},
		{size + ";0 0 3 1", api.ErrSyntax},
		{size + ";0 0 3 1 2", api.ErrSyntax},
		{size + ";0 0 3 1 11", api.ErrSyntax},
		{size + ";0 0 3 1 01", api.ErrSyntax},
		{size + ";0 0 3 1 -1", api.ErrSyntax},
		{size + ";0 0 3 1 -0", api.ErrSyntax},
		{size + ";0 0 3 1 x", api.ErrSyntax},
		{size + ";0 0 3 -1 1", api.ErrSyntax},
		{size + ";0 0 1000 1 1", api.ErrSyntax},
		{"4 -2", api.ErrSyntax},
		{"4 1000", api.ErrSyntax},
		{"999 2;9 9 9 9 2", api.ErrSyntax},
		{"0 2", api.ErrRange},
		{"4 13", api.ErrRange},
		{"999 2;9 9 9 9 1", api.ErrRange},
		{size + ";" + ray + ";0 0 4 0 1", api.ErrMissing},
		{size + ";0 999 0 0 1", api.ErrMissing},
	}
	for _, text := range malformed(size) {
		texts = append(texts, text)
	}
	for _, text := range malformed(ray) {
		texts = append(texts, badText{size + ";" + text.text, api.ErrSyntax}, badText{size + ";" + ray + ";" + text.text, api.ErrSyntax})
	}
	for _, c := range texts {
		s, e := sonar.ParseScene(c.text)
		want(t, "ParseScene of "+c.text[:min(len(c.text), 40)], s, e, api.SonarScene{}, c.err)
	}
}

func TestParseReversesFormat(t *testing.T) {
	r := newRandom()
	for range 1000 {
		l := randomDevices(r, between(r, 1, 5), 10)
		x, e := sonar.ParseDevices(sonar.FormatDevices(l))
		want(t, "ParseDevices", x, e, l, api.OK)
		s := randomScene(r, between(r, 1, 12), between(r, 1, 12), r.IntN(11))
		y, e := sonar.ParseScene(sonar.FormatScene(s))
		want(t, "ParseScene", y, e, s, api.OK)
	}
}
