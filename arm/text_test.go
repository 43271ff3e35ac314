package arm_test

import (
	"math"
	"strings"
	"testing"

	"moonpool/api"
	"moonpool/arm"
)

// P6.8, P6.15

const (
	poseText = "1 0 -1"
	pathText = "-1 1;1 1"
)

func TestFormat(t *testing.T) {
	for _, c := range []struct{ got, wanted string }{
		{arm.FormatPose(poseOf(1, 0, -1)), poseText},
		{arm.FormatPose(api.ArmPose{}), "0"},
		{arm.FormatPose(poseOf(-3, math.MinInt, math.MaxInt, 0, 0, 100)), "-3 -9223372036854775808 9223372036854775807 0 0 100"},
		{arm.FormatPath([]api.ArmMove{moveOf(api.ArmSlide, 1), moveOf(1, 1)}), pathText},
		{arm.FormatPath(nil), ""},
		{arm.FormatPath([]api.ArmMove{{}}), "0 0"},
		{arm.FormatPath([]api.ArmMove{moveOf(math.MinInt, 500), moveOf(-7, math.MaxInt), moveOf(2, -1)}), "-9223372036854775808 500;-7 9223372036854775807;2 -1"},
		{arm.FormatPath(make([]api.ArmMove, 5000)), "0 0" + strings.Repeat(";0 0", 4999)},
	} {
		if c.got != c.wanted {
			t.Errorf("%q, want %q", c.got, c.wanted)
		}
	}
}

func TestParsePose(t *testing.T) {
	for _, c := range []struct {
		text string
		pose api.ArmPose
	}{
		{poseText, poseOf(1, 0, -1)},
		{"0", poseOf(0)},
		{"99", poseOf(99)},
		{"0 0", poseOf(0, 0)},
		{"99 99 -99 -10", poseOf(99, 99, -99, -10)},
	} {
		p, e := arm.ParsePose(c.text)
		want(t, "ParsePose of "+c.text, p, e, c.pose, api.OK)
	}
	for _, c := range []struct {
		text string
		err  api.Errno
	}{
		{"0 0 0 0 0", api.ErrLarge},
		{"0" + strings.Repeat(" 0", 60000), api.ErrLarge},
		{"0 0 0 0 0 x", api.ErrSyntax},
		{"0 0 0 0 100", api.ErrSyntax},
		{"-1 0 0 0 0", api.ErrSyntax},
		{"-1 0 0", api.ErrSyntax},
		{"-0 0 0", api.ErrSyntax},
		{"100 0 0", api.ErrSyntax},
		{strings.Repeat("x", 60001), api.ErrSyntax},
		{strings.Repeat("0", 60001), api.ErrSyntax},
		{pathText, api.ErrSyntax},
	} {
		p, e := arm.ParsePose(c.text)
		want(t, "ParsePose of "+c.text[:min(len(c.text), 40)], p, e, api.ArmPose{}, c.err)
	}
	for _, text := range malformed("1 0 -1") {
		p, e := arm.ParsePose(text)
		want(t, "ParsePose of "+text, p, e, api.ArmPose{}, api.ErrSyntax)
	}
}

// malformed are malformed texts, made from one of words that is not by replacing each of them, and by adding blanks and signs.
func malformed(good string) []string {
	words := strings.Split(good, " ")
	texts := []string{"", " ", "-", " " + good, good + " ", good + "\n", strings.ReplaceAll(good, " ", "  "), strings.ReplaceAll(good, " ", "\t"), strings.ReplaceAll(good, " ", ",")}
	for i := range words {
		before, after := strings.Join(append(words[:i:i], ""), " "), strings.Join(append([]string{""}, words[i+1:]...), " ")
		for _, word := range []string{"", " ", "-", "--1", "-0", "+1", "00", "01", "-01", "x", "1x", "1.5", "1,", "٣", "1\t", "0x1", "1-", "100", "-100", "1/2", ";", "1;", ";1"} {
			texts = append(texts, before+word+after)
		}
	}
	return texts
}

func TestParsePath(t *testing.T) {
	for _, c := range []struct {
		text string
		path []api.ArmMove
	}{
		{pathText, []api.ArmMove{moveOf(api.ArmSlide, 1), moveOf(1, 1)}},
		{"", nil},
		{"0 0", []api.ArmMove{{}}},
		{"-99 99;99 -99", []api.ArmMove{moveOf(-99, 99), moveOf(99, -99)}},
		{"0 0" + strings.Repeat(";0 0", 59), make([]api.ArmMove, 60)},
	} {
		l, e := arm.ParsePath(c.text)
		want(t, "ParsePath of "+c.text, l, e, c.path, api.OK)
	}
	for _, c := range []struct {
		text string
		err  api.Errno
	}{
		{"0 0" + strings.Repeat(";0 0", 60), api.ErrLarge},
		{"0 0" + strings.Repeat(";0 0", 14999), api.ErrLarge},
		{"0 0" + strings.Repeat(";0 0", 60) + ";", api.ErrSyntax},
		{strings.Repeat("x", 60000), api.ErrSyntax},
		{strings.Repeat("x", 60001), api.ErrLarge},
		{"0", api.ErrSyntax},
		{"0 0 0", api.ErrSyntax},
		{"0 0;0", api.ErrSyntax},
		{"0 0 0;0", api.ErrSyntax},
		{"0 0;0 0 0", api.ErrSyntax},
		{"0 0 0 0", api.ErrSyntax},
		{";", api.ErrSyntax},
		{";0 0", api.ErrSyntax},
		{"0 0;", api.ErrSyntax},
		{"0 0;;0 0", api.ErrSyntax},
		{"0 0; 0 0", api.ErrSyntax},
		{"0 0 ;0 0", api.ErrSyntax},
	} {
		l, e := arm.ParsePath(c.text)
		want(t, "ParsePath of "+c.text[:min(len(c.text), 40)], l, e, []api.ArmMove{}, c.err)
	}
	for _, bad := range malformed("0 -1") {
		if bad == "" {
			continue
		}
		for _, text := range []string{bad, "0 0;" + bad, bad + ";0 0"} {
			l, e := arm.ParsePath(text)
			want(t, "ParsePath of "+text, l, e, []api.ArmMove{}, api.ErrSyntax)
		}
	}
}

func TestParseReversesFormat(t *testing.T) {
	r := newRandom()
	for range 2000 {
		s := randomScene(r)
		p := randomPose(r, s)
		x, e := arm.ParsePose(arm.FormatPose(p))
		want(t, "ParsePose", x, e, p, api.OK)
		path := make([]api.ArmMove, r.IntN(61))
		all := allMoves(s)
		for i := range path {
			path[i] = all[r.IntN(len(all))]
		}
		l, e := arm.ParsePath(arm.FormatPath(path))
		want(t, "ParsePath", l, e, path, api.OK)
	}
}
