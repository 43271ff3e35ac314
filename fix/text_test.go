package fix_test

import (
	"math"
	"strings"
	"testing"

	"moonpool/api"
	"moonpool/fix"
)

// P5.6, P5.12

const (
	boxText  = "0 4 0 0 3 3"
	stepText = "2 1 3 0 1 -1 0/0;range 1 3 7;axis 0 4 9"
)

// exampleStep is the step of example 8.
func exampleStep() api.FixStep {
	return api.FixStep{Move: exampleMove(), Vote: voteOf(0, rangeOf(1, 3, 7), axisOf(0, 4, 9))}
}

func TestFormat(t *testing.T) {
	odd := api.FixStep{
		Move: moveOf(-5, 2, 1, 0, 0, math.MinInt, math.MaxInt),
		Vote: voteOf(-1, api.FixReading{Kind: 2, Index: -3, Value: spanOf(4, -5)}, api.FixReading{Kind: -1}, axisOf(1234567, 0, 0)),
	}
	for _, c := range []struct{ got, wanted string }{
		{fix.FormatBox(exampleBox()), boxText},
		{fix.FormatBox(api.FixBox{}), "0 0 0 0 0 0"},
		{fix.FormatBox(boxOf(-1, -2, 30, -400, math.MinInt, math.MaxInt)), "-1 -2 30 -400 -9223372036854775808 9223372036854775807"},
		{fix.FormatStep(exampleStep()), stepText},
		{fix.FormatStep(api.FixStep{}), "0 0 0 0 0 0 0/0"},
		{fix.FormatStep(odd), "-5 2 1 0 0 -9223372036854775808 9223372036854775807/-1; -3 4 -5; 0 0 0;axis 1234567 0 0"},
	} {
		if c.got != c.wanted {
			t.Errorf("%q, want %q", c.got, c.wanted)
		}
	}
	many := api.FixStep{Vote: voteOf(0, make([]api.FixReading, 5000)...)}
	if fix.FormatStep(many) != "0 0 0 0 0 0 0/0"+strings.Repeat(";range 0 0 0", 5000) {
		t.Errorf("a step of many readings has another string")
	}
}

func TestParseBox(t *testing.T) {
	for _, c := range []struct {
		text string
		box  api.FixBox
	}{
		{boxText, exampleBox()},
		{"0 0 0 0 0 0", api.FixBox{}},
		{"-999999 999999 -999999 -999999 -2 -1", boxOf(-999999, 999999, -999999, -999999, -2, -1)},
	} {
		b, e := fix.ParseBox(c.text)
		want(t, "ParseBox of "+c.text, b, e, c.box, api.OK)
	}
	for _, c := range []struct {
		text string
		err  api.Errno
	}{
		{"1 0 0 0 0 0", api.ErrOrder},
		{"0 0 1 0 0 0", api.ErrOrder},
		{"0 0 0 0 -1 -2", api.ErrOrder},
		{"1 0 0 0 0", api.ErrSyntax},
		{"1 0 0 0 0 0 0", api.ErrSyntax},
		{"1 0 0 0 0 x", api.ErrSyntax},
		{"0 1000000 0 0 0 0", api.ErrSyntax},
		{"-1000000 0 0 0 0 0", api.ErrSyntax},
		{boxText + ";", api.ErrSyntax},
		{strings.Repeat("x", 60001), api.ErrSyntax},
		{boxText + strings.Repeat(" 0", 60000), api.ErrSyntax},
	} {
		b, e := fix.ParseBox(c.text)
		want(t, "ParseBox of "+c.text[:min(len(c.text), 40)], b, e, api.FixBox{}, c.err)
	}
	for _, text := range malformed("0 4 0 0 3 30", 6) {
		b, e := fix.ParseBox(text)
		want(t, "ParseBox of "+text, b, e, api.FixBox{}, api.ErrSyntax)
	}
}

// malformed are malformed texts, made from one of words that is not by replacing each of them, from the last one on so many, and by adding and leaving out.
func malformed(good string, count int) []string {
	words := strings.Split(good, " ")
	texts := []string{"", " ", "-", " " + good, good + " ", good + " 0", good + "\n", strings.Join(words[1:], " "), strings.Join(words[:len(words)-1], " ")}
	for i := len(words) - count; i < len(words); i++ {
		before, after := strings.Join(append(words[:i:i], ""), " "), strings.Join(append([]string{""}, words[i+1:]...), " ")
		for _, word := range []string{"", " ", "-", "--1", "-0", "+1", "00", "01", "-01", "x", "1x", "1.5", "1,", "٣", "1\t", "0x1", "1000000", "-1000000", "1/", "/1", ";", "1;1"} {
			texts = append(texts, before+word+after)
		}
	}
	return texts
}

func TestParseStep(t *testing.T) {
	odd := api.FixStep{
		Move: moveOf(1000, -100, 100, -100, -100, 100, 100),
		Vote: voteOf(2, rangeOf(999999, -999999, -999999), axisOf(9, 5, 4), axisOf(0, 999999, 0)),
	}
	for _, c := range []struct {
		text string
		step api.FixStep
	}{
		{stepText, exampleStep()},
		{"0 0 0 0 0 0 0/0", api.FixStep{}},
		{"1 0 2 0 0 0 0/1;axis 0 4 9", api.FixStep{Move: moveOf(1, 0, 2, 0, 0, 0, 0), Vote: voteOf(1, axisOf(0, 4, 9))}},
		{"1000 -100 100 -100 -100 100 100/2;range 999999 -999999 -999999;axis 9 5 4;axis 0 999999 0", odd},
		{"0 0 0 0 0 0 0/8" + strings.Repeat(";range 0 0 0", 8), api.FixStep{Vote: voteOf(8, make([]api.FixReading, 8)...)}},
	} {
		s, e := fix.ParseStep(c.text)
		want(t, "ParseStep of "+c.text, s, e, c.step, api.OK)
	}
	const move, reading = "2 1 3 0 1 -1 0", ";axis 0 4 9"
	for _, c := range []struct {
		text string
		err  api.Errno
	}{
		{strings.Repeat("x", 60001), api.ErrLarge},
		{strings.Repeat("x", 60000), api.ErrSyntax},
		{move + "/0" + strings.Repeat(reading, 5450), api.ErrLarge},
		{move + "/0" + strings.Repeat(reading, 5450) + ";x", api.ErrSyntax},
		{"1001 1 3 0 1 -1 0/0", api.ErrRange},
		{"1001 3 1 0 1 -1 0/0", api.ErrRange},
		{"2 1 101 0 1 -1 0/0", api.ErrRange},
		{"2 1 3 -101 1 -1 0/0", api.ErrRange},
		{"2 1 3 0 1 -1 999999/0", api.ErrRange},
		{"2 3 1 0 1 -1 0/0", api.ErrOrder},
		{"2 1 3 0 -1 -1 0/0", api.ErrOrder},
		{"2 1 3 0 1 1 0/0", api.ErrOrder},
		{"2 1 3 0 1 1 0/9" + strings.Repeat(reading, 9), api.ErrOrder},
		{move + "/10" + strings.Repeat(reading, 9), api.ErrLarge},
		{move + "/0" + strings.Repeat(reading, 9), api.ErrLarge},
		{move + "/1", api.ErrRange},
		{move + "/9" + strings.Repeat(reading, 8), api.ErrRange},
		{move + "/2" + reading, api.ErrRange},
		{move + "/2;axis 0 4", api.ErrSyntax},
		{"2 3 1 0 1 -1 0/0;axis 0 4", api.ErrSyntax},
	} {
		s, e := fix.ParseStep(c.text)
		want(t, "ParseStep of "+c.text[:min(len(c.text), 40)], s, e, api.FixStep{}, c.err)
	}
}

func TestParseMalformedSteps(t *testing.T) {
	const move, vote = "2 1 3 0 1 -1 0", "1;range 1 3 7;axis 0 4 9"
	texts := []string{
		move, move + "/", "/" + vote, "/", move + "//" + vote, move + "/" + vote + "/", move + "/0/" + vote, move + ";0", move + ";/0",
		move + "/" + vote + ";", move + "/;" + vote, move + "/1;;axis 0 4 9", move + "/1 1", move + "/-1", move + "/-0", move + "/ 1", move + "/1 ",
		"-2 1 3 0 1 -1 0/0", "-0 1 3 0 1 -1 0/0", "2  1 3 0 1 -1 0/0", move + "/range 1 3 7", move + "/axis 0 4 9;1",
	}
	for _, text := range malformed("2 1 3 0 1 -1 10", 7) {
		texts = append(texts, text+"/"+vote)
	}
	for _, word := range []string{"range", "axis"} {
		for _, reading := range append(malformed(word+" 1 3 7", 3), word+" -1 3 7") {
			texts = append(texts, move+"/1;"+reading, move+"/1;axis 0 4 9;"+reading, move+"/0;"+reading+";range 1 3 7")
		}
	}
	for _, word := range []string{"", " ", "Range", "AXIS", "ranges", "axi", "0", "1", "-", "range range", "range/", "depth"} {
		texts = append(texts, move+"/1;"+word+" 1 3 7")
	}
	for _, text := range texts {
		s, e := fix.ParseStep(text)
		want(t, "ParseStep of "+text, s, e, api.FixStep{}, api.ErrSyntax)
	}
}

func TestParseReversesFormat(t *testing.T) {
	great := boxOf(-10000, 10000, -10000, 10000, 0, 10000)
	r := newRandom()
	for range 1000 {
		b := randomBox(r, great)
		x, e := fix.ParseBox(fix.FormatBox(b))
		want(t, "ParseBox", x, e, b, api.OK)
		s := api.FixStep{Move: api.FixMove{Ticks: r.IntN(1001), Speed: randomBox(r, boxOf(-100, 100, -100, 100, -100, 100))}}
		for range r.IntN(9) {
			if r.IntN(2) == 0 {
				s.Vote.Readings = append(s.Vote.Readings, api.FixReading{Kind: api.FixAxis, Index: r.IntN(3), Value: randomSpan(r, spanOf(-30000, 30000))})
				continue
			}
			s.Vote.Readings = append(s.Vote.Readings, api.FixReading{Kind: api.FixRange, Index: r.IntN(2), Value: randomSpan(r, spanOf(0, 30000))})
		}
		s.Vote.Wrong = r.IntN(len(s.Vote.Readings) + 1)
		if i, e := fix.CheckSteps(greatNet(), []api.FixStep{s}); i != 0 || e != api.OK {
			t.Fatalf("%v is not valid", s)
		}
		y, e := fix.ParseStep(fix.FormatStep(s))
		want(t, "ParseStep", y, e, s, api.OK)
	}
}
