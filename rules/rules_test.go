package rules_test

import (
	"math"
	"slices"
	"strings"
	"testing"

	"moonpool/api"
	"moonpool/rules"
)

func TestFirstError(t *testing.T) {
	for _, c := range []struct {
		errors []api.Errno
		want   api.Errno
	}{
		{nil, api.OK},
		{[]api.Errno{api.OK, api.OK}, api.OK},
		{[]api.Errno{api.OK, api.ErrOrder, api.ErrRange}, api.ErrOrder},
		{[]api.Errno{api.ErrShape}, api.ErrShape},
	} {
		if e := rules.FirstError(c.errors...); e != c.want {
			t.Errorf("FirstError of %v: %d, want %d", c.errors, e, c.want)
		}
	}
}

// evenError is ErrForm if a number is not even.
func evenError(n int) api.Errno {
	if n%2 != 0 {
		return api.ErrForm
	}
	return api.OK
}

func TestFirstBad(t *testing.T) {
	for _, c := range []struct {
		items []int
		index int
		err   api.Errno
	}{
		{nil, 0, api.OK},
		{[]int{2, 4}, 0, api.OK},
		{[]int{1, 3}, 0, api.ErrForm},
		{[]int{2, 4, 5, 7}, 2, api.ErrForm},
	} {
		if i, e := rules.FirstBad(c.items, evenError); i != c.index || e != c.err {
			t.Errorf("FirstBad of %v: %d, %d, want %d, %d", c.items, i, e, c.index, c.err)
		}
	}
}

func TestCheckList(t *testing.T) {
	for _, c := range []struct {
		items       []int
		least, most int
		index       int
		err         api.Errno
	}{
		{nil, 0, 3, 0, api.OK},
		{nil, 1, 3, 0, api.ErrShape},
		{[]int{2}, 2, 3, 0, api.ErrShape},
		{[]int{2, 4}, 2, 3, 0, api.OK},
		{[]int{2, 4, 6}, 2, 3, 0, api.OK},
		{[]int{2, 4, 6, 8}, 2, 3, 0, api.ErrLarge},
		{[]int{1}, 2, 3, 0, api.ErrShape},
		{[]int{2, 4, 6, 7}, 2, 3, 0, api.ErrLarge},
		{[]int{2, 3, 5}, 2, 3, 1, api.ErrForm},
	} {
		if i, e := rules.CheckList(c.items, c.least, c.most, evenError); i != c.index || e != c.err {
			t.Errorf("CheckList of %v: %d, %d, want %d, %d", c.items, i, e, c.index, c.err)
		}
	}
}

func TestIndexError(t *testing.T) {
	for _, c := range []struct {
		index, count int
		err          api.Errno
	}{
		{0, 1, api.OK},
		{4, 5, api.OK},
		{5, 5, api.ErrMissing},
		{-1, 5, api.ErrMissing},
		{0, 0, api.ErrMissing},
		{math.MaxInt, 5, api.ErrMissing},
		{math.MinInt, 5, api.ErrMissing},
	} {
		if e := rules.IndexError(c.index, c.count); e != c.err {
			t.Errorf("IndexError of %d of %d: %d, want %d", c.index, c.count, e, c.err)
		}
	}
}

func TestKindError(t *testing.T) {
	for _, c := range []struct {
		kind, count int
		err         api.Errno
	}{
		{0, 1, api.OK},
		{2, 3, api.OK},
		{3, 3, api.ErrKind},
		{-1, 3, api.ErrKind},
		{0, 0, api.ErrKind},
		{math.MaxInt, 3, api.ErrKind},
		{math.MinInt, 3, api.ErrKind},
	} {
		if e := rules.KindError(c.kind, c.count); e != c.err {
			t.Errorf("KindError of %d of %d: %d, want %d", c.kind, c.count, e, c.err)
		}
	}
}

func TestErrorsOfMany(t *testing.T) {
	for _, c := range []struct {
		numbers               []int
		rising, set, distinct api.Errno // the last two with the indexes of 5 items
	}{
		{nil, api.OK, api.OK, api.OK},
		{[]int{0}, api.OK, api.OK, api.OK},
		{[]int{0, 1, 4}, api.OK, api.OK, api.OK},
		{[]int{-9, -3, 7}, api.OK, api.ErrMissing, api.ErrMissing},
		{[]int{math.MinInt, math.MaxInt}, api.OK, api.ErrMissing, api.ErrMissing},
		{[]int{math.MinInt, math.MinInt}, api.ErrOrder, api.ErrMissing, api.ErrMissing},
		{[]int{0, 0}, api.ErrOrder, api.ErrOrder, api.ErrDouble},
		{[]int{0, 3, 2}, api.ErrOrder, api.ErrOrder, api.OK},
		{[]int{0, 3, 2, 0}, api.ErrOrder, api.ErrOrder, api.ErrDouble},
		{[]int{0, 3, -1}, api.ErrOrder, api.ErrMissing, api.ErrMissing},
		{[]int{3, 2, 5}, api.ErrOrder, api.ErrOrder, api.ErrMissing},
		{[]int{3, 5, 4}, api.ErrOrder, api.ErrMissing, api.ErrMissing},
		{[]int{4, 3, 2, 1, 0}, api.ErrOrder, api.ErrOrder, api.OK},
		{[]int{1, 1, 5}, api.ErrOrder, api.ErrOrder, api.ErrDouble},
	} {
		if _, e := rules.FirstBad(c.numbers, rules.RisingErrors()); e != c.rising {
			t.Errorf("RisingErrors of %v: %d, want %d", c.numbers, e, c.rising)
		}
		if _, e := rules.FirstBad(c.numbers, rules.SetErrors(5)); e != c.set {
			t.Errorf("SetErrors of %v: %d, want %d", c.numbers, e, c.set)
		}
		if _, e := rules.FirstBad(c.numbers, rules.DistinctErrors(5)); e != c.distinct {
			t.Errorf("DistinctErrors of %v: %d, want %d", c.numbers, e, c.distinct)
		}
	}
}

func TestParsed(t *testing.T) {
	read := func(s string) (int, bool) { return len(s), !strings.Contains(s, "x") }
	errorOf := func(n int) api.Errno {
		if n == 2 {
			return api.ErrForm
		}
		return api.OK
	}
	for _, c := range []struct {
		text   string
		number int
		err    api.Errno
	}{
		{"", 0, api.OK},
		{"aaa", 3, api.OK},
		{"aa", 0, api.ErrForm},
		{"xx", 0, api.ErrSyntax},
		{"x", 0, api.ErrSyntax},
		{strings.Repeat("a", 60000), 60000, api.OK},
		{strings.Repeat("a", 60001), 0, api.ErrLarge},
		{strings.Repeat("x", 60001), 0, api.ErrLarge},
	} {
		if n, e := rules.Parsed(c.text, read, errorOf); n != c.number || e != c.err {
			t.Errorf("Parsed of %q: %d, %d, want %d, %d", c.text[:min(len(c.text), 40)], n, e, c.number, c.err)
		}
	}
}

func TestSizesAndLimits(t *testing.T) {
	for _, c := range []struct {
		name      string
		got, want api.Errno
	}{
		{"no sizes", rules.SizeError(3), api.OK},
		{"sizes", rules.SizeError(3, -3, 0, 3), api.OK},
		{"too great", rules.SizeError(3, 0, 4), api.ErrRange},
		{"too small", rules.SizeError(3, -4), api.ErrRange},
		{"the least int", rules.SizeError(3, math.MinInt), api.ErrRange},
		{"the least limit", rules.LimitError(1, 1, 3), api.OK},
		{"the greatest limit", rules.LimitError(3, 1, 3), api.OK},
		{"below", rules.LimitError(0, 1, 3), api.ErrRange},
		{"above", rules.LimitError(4, 1, 3), api.ErrRange},
		{"no limits", rules.LimitsError(1, 3), api.OK},
		{"limits", rules.LimitsError(1, 3, 1, 3, 2), api.OK},
		{"one below", rules.LimitsError(1, 3, 2, 0), api.ErrRange},
		{"one above", rules.LimitsError(1, 3, 4, 2), api.ErrRange},
		{"one that is the least int", rules.LimitsError(1, 3, math.MinInt), api.ErrRange},
		{"a range", rules.RangeError(api.Range{Lo: -3, Hi: 3}, 3), api.OK},
		{"a range of one number", rules.RangeError(api.Range{Lo: 2, Hi: 2}, 3), api.OK},
		{"Lo too small", rules.RangeError(api.Range{Lo: -4, Hi: 3}, 3), api.ErrRange},
		{"Hi too great", rules.RangeError(api.Range{Lo: -3, Hi: 4}, 3), api.ErrRange},
		{"wrong order", rules.RangeError(api.Range{Lo: 1, Hi: 0}, 3), api.ErrOrder},
		{"size before order", rules.RangeError(api.Range{Lo: 4, Hi: 0}, 3), api.ErrRange},
		{"order alone", rules.OrderError(api.Range{Lo: 9, Hi: 8}), api.ErrOrder},
		{"order kept", rules.OrderError(api.Range{Lo: 9, Hi: 9}), api.OK},
	} {
		if c.got != c.want {
			t.Errorf("%s: %d, want %d", c.name, c.got, c.want)
		}
	}
}

func TestDivisorAndLowest(t *testing.T) {
	for _, c := range []struct {
		numbers []int
		want    int
	}{
		{nil, 0},
		{[]int{0, 0}, 0},
		{[]int{-7}, 7},
		{[]int{12, 18}, 6},
		{[]int{-12, 18, 4}, 2},
		{[]int{0, 0, -5}, 5},
		{[]int{6, 10, 15}, 1},
	} {
		if by := rules.Divisor(c.numbers...); by != c.want {
			t.Errorf("Divisor of %v: %d, want %d", c.numbers, by, c.want)
		}
	}
	for _, c := range []struct {
		num, den int
		want     api.Frac
	}{
		{0, 9, api.Frac{Num: 0, Den: 1}},
		{6, 4, api.Frac{Num: 3, Den: 2}},
		{-6, 4, api.Frac{Num: -3, Den: 2}},
		{-4, 2, api.Frac{Num: -2, Den: 1}},
		{5, 7, api.Frac{Num: 5, Den: 7}},
	} {
		if f := rules.Lowest(c.num, c.den); f != c.want {
			t.Errorf("Lowest of %d, %d: %v, want %v", c.num, c.den, f, c.want)
		}
	}
}

func TestLowestError(t *testing.T) {
	for _, c := range []struct {
		num, den int
		err      api.Errno
	}{
		{0, 1, api.OK},
		{7, 1, api.OK},
		{-3, 2, api.OK},
		{math.MinInt, math.MaxInt, api.OK},
		{math.MinInt, 1, api.OK},
		{0, 0, api.ErrForm},
		{1, 0, api.ErrForm},
		{0, 2, api.ErrForm},
		{6, 4, api.ErrForm},
		{-6, 4, api.ErrForm},
		{3, -2, api.ErrForm},
		{-1, -1, api.ErrForm},
		{math.MinInt, 2, api.ErrForm},
		{math.MinInt, math.MinInt, api.ErrForm},
	} {
		if e := rules.LowestError(api.Frac{Num: c.num, Den: c.den}); e != c.err {
			t.Errorf("LowestError of %d/%d: %d, want %d", c.num, c.den, e, c.err)
		}
	}
}

func TestFloorAndCeiling(t *testing.T) {
	for _, c := range []struct{ n, by, floor, ceiling int }{
		{0, 7, 0, 0},
		{6, 7, 0, 1},
		{7, 7, 1, 1},
		{8, 7, 1, 2},
		{-1, 7, -1, 0},
		{-6, 7, -1, 0},
		{-7, 7, -1, -1},
		{-8, 7, -2, -1},
		{5, 1, 5, 5},
		{-5, 1, -5, -5},
	} {
		if n := rules.Floor(c.n, c.by); n != c.floor {
			t.Errorf("Floor of %d by %d: %d, want %d", c.n, c.by, n, c.floor)
		}
		if n := rules.Ceiling(c.n, c.by); n != c.ceiling {
			t.Errorf("Ceiling of %d by %d: %d, want %d", c.n, c.by, n, c.ceiling)
		}
	}
}

func TestWritten(t *testing.T) {
	for _, c := range []struct {
		numbers []int
		want    string
	}{
		{nil, ""},
		{[]int{0}, "0"},
		{[]int{-1, 20, -300}, "-1 20 -300"},
		{[]int{math.MinInt}, "-9223372036854775808"},
	} {
		if s := rules.Written(c.numbers...); s != c.want {
			t.Errorf("Written of %v: %q, want %q", c.numbers, s, c.want)
		}
	}
}

func TestJoined(t *testing.T) {
	double := func(s string) string { return s + s }
	for _, c := range []struct {
		items []string
		want  string
	}{
		{nil, ""},
		{[]string{""}, ""},
		{[]string{"a"}, "aa"},
		{[]string{"a", "", "b-"}, "aa--b-b-"},
	} {
		if s := rules.Joined(c.items, "-", double); s != c.want {
			t.Errorf("Joined of %q: %q, want %q", c.items, s, c.want)
		}
	}
}

func TestReadAnyAndSome(t *testing.T) {
	read := func(s string) (int, bool) { return len(s), s != "x" }
	for _, c := range []struct {
		text      string
		want      []int
		any, some bool
	}{
		{"", nil, true, false},
		{"a", []int{1}, true, true},
		{"aa;;b;", []int{2, 0, 1, 0}, true, true},
		{"x", nil, false, false},
		{"a;x;b", nil, false, false},
		{"a;b;x", nil, false, false},
	} {
		if l, ok := rules.ReadAny(c.text, ";", read); !slices.Equal(l, c.want) || ok != c.any {
			t.Errorf("ReadAny of %q: %v, %v, want %v, %v", c.text, l, ok, c.want, c.any)
		}
		if l, ok := rules.ReadSome(c.text, ";", read); !slices.Equal(l, c.want) || ok != c.some {
			t.Errorf("ReadSome of %q: %v, %v, want %v, %v", c.text, l, ok, c.want, c.some)
		}
	}
}

func TestNumbersIn(t *testing.T) {
	for _, c := range []struct {
		text     string
		unsigned []int
		want     []int
	}{
		{"0", nil, []int{0}},
		{"-9 10 -999", nil, []int{-9, 10, -999}},
		{"-1 5 -2 0", []int{1, 3}, []int{-1, 5, -2, 0}},
		{"7", []int{4}, []int{7}},
	} {
		if n, ok := rules.NumbersIn(c.text, 3, c.unsigned...); !ok || !slices.Equal(n, c.want) {
			t.Errorf("NumbersIn of %q: %v, %v, want %v", c.text, n, ok, c.want)
		}
	}
	for _, text := range strings.Split(malformed, ",") {
		if n, ok := rules.NumbersIn(text, 3); ok || n != nil {
			t.Errorf("NumbersIn of %q: %v, %v, want none", text, n, ok)
		}
	}
	if n, ok := rules.NumbersIn("1 -2", 3, 1); ok || n != nil {
		t.Errorf("NumbersIn of an unsigned one: %v, %v, want none", n, ok)
	}
}

func TestCountIn(t *testing.T) {
	for _, c := range []struct {
		text  string
		count int
		ok    bool
	}{
		{"0", 0, true},
		{"7", 7, true},
		{"120", 120, true},
		{"999", 999, true},
		{"-1", 0, false},
		{"1 2", 0, false},
	} {
		if n, ok := rules.CountIn(c.text, 3); n != c.count || ok != c.ok {
			t.Errorf("CountIn of %q: %d, %v, want %d, %v", c.text, n, ok, c.count, c.ok)
		}
	}
	for _, text := range strings.Split(malformed, ",") {
		if n, ok := rules.CountIn(text, 3); ok || n != 0 {
			t.Errorf("CountIn of %q: %d, %v, want none", text, n, ok)
		}
	}
}

func TestCountsIn(t *testing.T) {
	for _, c := range []struct {
		text string
		want []int
		ok   bool
	}{
		{"", nil, true},
		{"0", []int{0}, true},
		{"9 10 999 0", []int{9, 10, 999, 0}, true},
		{"-1", nil, false},
		{"1 -1", nil, false},
	} {
		if l, ok := rules.CountsIn(c.text, 3); !slices.Equal(l, c.want) || ok != c.ok {
			t.Errorf("CountsIn of %q: %v, %v, want %v, %v", c.text, l, ok, c.want, c.ok)
		}
	}
	for _, text := range strings.Split(malformed, ",")[1:] {
		if l, ok := rules.CountsIn(text, 3); ok || l != nil {
			t.Errorf("CountsIn of %q: %v, %v, want none", text, l, ok)
		}
	}
}

// malformed is texts that have a malformed number of at most 3 digits, separated by commas. The first one is empty.
const malformed = `, ,1  2,1 , 1,-,--1,-0,00,01,-01,+1,1000,-1000,1a,a,1 x 2,1;2,٣,1/,1:,1	2`
