package dive_test

import (
	"fmt"
	"math"
	"math/rand/v2"
	"slices"
	"strings"
	"testing"

	"moonpool/api"
	"moonpool/dive"
)

// P8.7, P8.14

const (
	tasksText = "valve 1 20 30 4 50 0 300;probe 2 10 10 1 30 80 90;close 1 10 20 2 40 0 400 0"
	stateText = "1 30 250 2/0"
	planText  = "0 2"
)

func TestFormatTasks(t *testing.T) {
	for _, c := range []struct {
		tasks []api.DiveTask
		text  string
	}{
		{exampleSite().Tasks, tasksText},
		{nil, ""},
		{make([]api.DiveTask, 2), " 0 0 0 0 0 0 0; 0 0 0 0 0 0 0"},
		{[]api.DiveTask{taskOf("a", [7]int{1, 2, 3, 4, 5, 6, 7}, 8, 9, -1, 8)}, "a 1 2 3 4 5 6 7 8 9 -1 8"},
		{[]api.DiveTask{taskOf("a;b c", [7]int{math.MinInt, -1, 0, 0, 0, 0, math.MaxInt})}, "a;b c -9223372036854775808 -1 0 0 0 0 9223372036854775807"},
		{make([]api.DiveTask, 5000), " 0 0 0 0 0 0 0" + strings.Repeat("; 0 0 0 0 0 0 0", 4999)},
	} {
		if s := dive.FormatTasks(c.tasks); s != c.text {
			t.Errorf("FormatTasks of %v: %q, want %q", c.tasks, s, c.text)
		}
	}
}

func TestFormatStateAndPlan(t *testing.T) {
	for _, c := range []struct {
		state api.DiveState
		text  string
	}{
		{stateOf(1, 30, 250, 2, 0), stateText},
		{api.DiveState{}, "0 0 0 0/"},
		{stateOf(1, 2, 3, 4, 5, 6), "1 2 3 4/5 6"},
		{stateOf(math.MinInt, -1, math.MaxInt, -2, 7, 7, -3), "-9223372036854775808 -1 9223372036854775807 -2/7 7 -3"},
	} {
		if s := dive.FormatState(c.state); s != c.text {
			t.Errorf("FormatState of %v: %q, want %q", c.state, s, c.text)
		}
	}
	for _, c := range []struct {
		plan []int
		text string
	}{
		{[]int{0, 2}, planText},
		{nil, ""},
		{[]int{5, 5, -1, math.MinInt}, "5 5 -1 -9223372036854775808"},
		{make([]int, 50000), "0" + strings.Repeat(" 0", 49999)},
	} {
		if s := dive.FormatPlan(c.plan); s != c.text {
			t.Errorf("FormatPlan of %v: %q, want %q", c.plan, s, c.text)
		}
	}
}

func short(text string) string { return text[:min(len(text), 60)] }

func TestParseTasks(t *testing.T) {
	for _, c := range []struct {
		text  string
		tasks []api.DiveTask
	}{
		{tasksText, exampleSite().Tasks},
		{"", nil},
		{"a 0 0 0 0 0 0 0", []api.DiveTask{taskOf("a", [7]int{})}},
		{"A0123456789- 4 10000 10000 10000 10000 100000 100000", []api.DiveTask{taskOf("A0123456789-", [7]int{4, 10000, 10000, 10000, 10000, 100000, 100000})}},
		{"a 1 2 3 4 5 6 7;b 0 0 0 0 0 0 0 0;c 0 0 0 0 0 0 0 0 1", []api.DiveTask{taskOf("a", [7]int{1, 2, 3, 4, 5, 6, 7}), taskOf("b", [7]int{}, 0), taskOf("c", [7]int{}, 0, 1)}},
		{dive.FormatTasks(greatSite().Tasks), greatSite().Tasks},
	} {
		l, e := dive.ParseTasks(c.text)
		want(t, "ParseTasks of "+c.text, l, e, c.tasks, api.OK)
	}
	const seven = "a 0 0 0 0 0 0 0;b 0 0 0 0 0 0 0;c 0 0 0 0 0 0 0;d 0 0 0 0 0 0 0;e 0 0 0 0 0 0 0;f 0 0 0 0 0 0 0;g 0 0 0 0 0 0 0"
	for _, c := range []struct {
		text string
		err  api.Errno
	}{
		{strings.Repeat("x", 60001), api.ErrLarge},
		{strings.Repeat("x", 60000), api.ErrSyntax},
		{"a 0 0 0 0 0 0 0" + strings.Repeat(" 0", 29992) + " ", api.ErrSyntax},
		{"a 0 0 0 0 0 0 0" + strings.Repeat(" 0", 29992), api.ErrMissing},
		{"aa 0 0 0 0 0 0 0" + strings.Repeat(" 0", 29992), api.ErrMissing},
		{"aaa 0 0 0 0 0 0 0" + strings.Repeat(" 0", 29992), api.ErrLarge},
		{seven, api.ErrLarge},
		{seven + ";h", api.ErrSyntax},
		{"a 0 0 0 0 0 0 0;- 0 0 0 0 0 0 0", api.ErrName},
		{"abcdefghijklm 0 0 0 0 0 0 0", api.ErrName},
		{"a/b 0 0 0 0 0 0 0", api.ErrName},
		{"é 0 0 0 0 0 0 0", api.ErrName},
		{"a\n 0 0 0 0 0 0 0", api.ErrName},
		{"1 0 0 0 0 0 0 0", api.ErrName},
		{"a 0 0 0 0 0 0 0;a 0 0 0 0 0 0 0", api.ErrExists},
		{"a 5 0 0 0 0 0 0", api.ErrRange},
		{"a 0 10001 0 0 0 0 0", api.ErrRange},
		{"a 0 0 10001 0 0 0 0", api.ErrRange},
		{"a 0 0 0 10001 0 0 0", api.ErrRange},
		{"a 0 0 0 0 10001 0 0", api.ErrRange},
		{"a 0 0 0 0 0 100001 100001", api.ErrRange},
		{"a 0 0 0 0 0 0 999999", api.ErrRange},
		{"a 0 0 0 0 0 5 4", api.ErrOrder},
		{"a 0 0 0 0 0 0 0 0", api.ErrMissing},
		{"a 0 0 0 0 0 0 0;b 0 0 0 0 0 0 0 999999", api.ErrMissing},
		{"a 0 0 0 0 0 0 0;b 0 0 0 0 0 0 0 0 0", api.ErrOrder},
		{"- 0 0 0 0 0 0 0;a 0 0 0 0 0 0", api.ErrSyntax},
	} {
		l, e := dive.ParseTasks(c.text)
		want(t, "ParseTasks of "+short(c.text), l, e, none, c.err)
	}
}

// badNumbers stand for a number without a sign of at most so many digits, and make a string malformed.
func badNumbers(digits int) []string {
	return []string{"", "-", "-1", "-0", "+1", "00", "01", "1" + strings.Repeat("0", digits), strings.Repeat("0", digits+1), "x", "1x", "x1", "1.5", "٣", "1\n", "\t1", "0x1", "1-1", "1_1", "1,1"}
}

func TestParseMalformedTasks(t *testing.T) {
	texts := []string{
		" ", ";", "a", "a 0", "a 0 0 0 0 0 0", "a 0 0 0 0 0 0 0 ", " a 0 0 0 0 0 0 0", " 0 0 0 0 0 0 0", "a  0 0 0 0 0 0 0", "a 0 0 0  0 0 0 0",
		"a 0 0 0 0 0 0 0  0", "a b 0 0 0 0 0 0 0", "a\t0\t0\t0\t0\t0\t0\t0", "a,0,0,0,0,0,0,0", "0 0 0 0 0 0 0 a", "a 0 0 0 0 0 0 0/0",
	}
	for _, bad := range badNumbers(6) {
		for i := range 8 {
			words := slices.Insert(strings.Fields("0 0 0 0 0 0 0"), i, bad)
			texts = append(texts, "a "+strings.Join(words, " "))
		}
	}
	for _, bad := range texts {
		for _, text := range []string{bad, bad + ";z 0 0 0 0 0 0 0", "z 0 0 0 0 0 0 0;" + bad, "z 0 0 0 0 0 0 0;" + bad + ";y 0 0 0 0 0 0 0"} {
			l, e := dive.ParseTasks(text)
			want(t, fmt.Sprintf("ParseTasks of %q", text), l, e, none, api.ErrSyntax)
		}
	}
	for _, text := range []string{"z 0 0 0 0 0 0 0;", ";z 0 0 0 0 0 0 0", "z 0 0 0 0 0 0 0;;y 0 0 0 0 0 0 0"} {
		l, e := dive.ParseTasks(text)
		want(t, fmt.Sprintf("ParseTasks of %q", text), l, e, none, api.ErrSyntax)
	}
}

func TestParseState(t *testing.T) {
	for _, c := range []struct {
		text  string
		state api.DiveState
	}{
		{stateText, stateOf(1, 30, 250, 2, 0)},
		{"0 0 0 0/", api.DiveState{}},
		{"1 2 3 4/5 6", stateOf(1, 2, 3, 4, 5, 6)},
		{"999999999 999999999 999999999 999999999/999999999 3 3 1", stateOf(999999999, 999999999, 999999999, 999999999, 999999999, 3, 3, 1)},
		{"0 0 100000000 0/0 1 2 3 4 5", stateOf(0, 0, 100000000, 0, 0, 1, 2, 3, 4, 5)},
		{"10 0 0 0/" + strings.Repeat("0 ", 29995) + "0", api.DiveState{Place: 10, Done: make([]int, 29996)}},
	} {
		s, e := dive.ParseState(c.text)
		want(t, "ParseState of "+short(c.text), s, e, c.state, api.OK)
	}
	texts := []string{
		"", "/", "0 0 0 0", "0 0 0/", "0 0 0/0", "0 0 0 0 0/", "0 0 0 0 0", "0 0 0 0//", "0 0 0 0/0/", "0 0 0 0/0/0", "/0 0 0 0/", "/0 0 0 0", "0 0/0 0", "0 0 0 0/0 /",
		"0 0 0 0 /", " 0 0 0 0/", "0 0 0 0/ ", "0 0 0 0/ 0", "0 0 0 0/0 ", "0 0 0 0/0  0", "0 0  0 0/0", "0\t0 0 0/", "0 0 0 0;0", "0 0 0 0/0,1", "0 0 0 0/a", strings.Repeat("x", 60000),
		"0 0 0 0/" + strings.Repeat("0 ", 29996),
	}
	for _, bad := range badNumbers(9) {
		texts = append(texts, bad+" 0 0 0/0", "0 "+bad+" 0 0/0", "0 0 "+bad+" 0/0", "0 0 0 "+bad+"/0", "0 0 0 0/"+bad+" 0", "0 0 0 0/0 "+bad)
		if bad != "" {
			texts = append(texts, "0 0 0 0/"+bad)
		}
	}
	for _, text := range texts {
		s, e := dive.ParseState(text)
		want(t, fmt.Sprintf("ParseState of %q", short(text)), s, e, api.DiveState{}, api.ErrSyntax)
	}
	for _, text := range []string{strings.Repeat("x", 60001), "100 0 0 0/" + strings.Repeat("0 ", 29995) + "0"} {
		s, e := dive.ParseState(text)
		want(t, fmt.Sprintf("ParseState of %q", short(text)), s, e, api.DiveState{}, api.ErrLarge)
	}
}

func TestParsePlan(t *testing.T) {
	for _, c := range []struct {
		text string
		plan []int
	}{
		{planText, []int{0, 2}},
		{"", nil},
		{"0", []int{0}},
		{"99 10 9 9 0", []int{99, 10, 9, 9, 0}},
		{"10" + strings.Repeat(" 0", 29999), append([]int{10}, make([]int, 29999)...)},
	} {
		plan, e := dive.ParsePlan(c.text)
		want(t, "ParsePlan of "+short(c.text), plan, e, c.plan, api.OK)
	}
	texts := []string{" ", "0 ", " 0", "0  1", "0,1", "0;1", "0/1", "a", strings.Repeat("x", 60000), strings.Repeat("0 ", 30000)}
	for _, bad := range badNumbers(2) {
		texts = append(texts, bad+" 0", "0 "+bad, "0 "+bad+" 0")
		if bad != "" {
			texts = append(texts, bad)
		}
	}
	for _, text := range texts {
		plan, e := dive.ParsePlan(text)
		want(t, fmt.Sprintf("ParsePlan of %q", short(text)), plan, e, none, api.ErrSyntax)
	}
	for _, text := range []string{strings.Repeat("x", 60001), "100" + strings.Repeat(" 0", 29999)} {
		plan, e := dive.ParsePlan(text)
		want(t, fmt.Sprintf("ParsePlan of %q", short(text)), plan, e, none, api.ErrLarge)
	}
}

// greatTask is a random task of which some numbers are as great as they may be.
func greatTask(r *rand.Rand, t api.DiveTask) api.DiveTask {
	number := func(n int) int {
		if r.IntN(3) == 0 {
			return between(r, 9990, 10000)
		}
		return n
	}
	t.Name = string(rune('A'+r.IntN(26))) + t.Name + "-0"[:r.IntN(3)]
	t.Place, t.Duration, t.Power, t.Oil, t.Value = r.IntN(5), number(t.Duration), number(t.Power), number(t.Oil), number(t.Value)
	t.Window.Hi = between(r, t.Window.Hi, 100000)
	return t
}

func TestParseReversesFormat(t *testing.T) {
	r := newRandom()
	for range 2000 {
		d := randomSite(r, 6)
		s := randomState(r, d)
		for i := range d.Tasks {
			d.Tasks[i] = greatTask(r, d.Tasks[i])
		}
		l, e := dive.ParseTasks(dive.FormatTasks(d.Tasks))
		want(t, "ParseTasks", l, e, d.Tasks, api.OK)
		s.Power *= between(r, 1, 400000)
		x, e := dive.ParseState(dive.FormatState(s))
		want(t, "ParseState", x, e, s, api.OK)
		plan := r.Perm(len(d.Tasks))
		p, e := dive.ParsePlan(dive.FormatPlan(plan))
		want(t, "ParsePlan", p, e, plan, api.OK)
	}
}
