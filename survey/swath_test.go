package survey_test

import (
	"fmt"
	"math"
	"slices"
	"testing"

	"moonpool/api"
	"moonpool/survey"
)

// P9.2 (GapsIn), P9.11

func TestGapsIn(t *testing.T) {
	all := spanOf(0, 100000)
	for _, c := range []struct {
		name   string
		swaths []api.Range
		span   api.Range
		need   int
		gaps   []api.Range
	}{
		{"example 4", exampleSwaths(), spanOf(0, 50), 1, []api.Range{spanOf(21, 29), spanOf(41, 50)}},
		{"example 4, twice", exampleSwaths(), spanOf(0, 50), 2, []api.Range{spanOf(0, 4), spanOf(11, 50)}},
		{"more than there are", exampleSwaths(), spanOf(0, 50), 3, []api.Range{spanOf(0, 50)}},
		{"the greatest need", exampleSwaths(), spanOf(7, 7), 12, []api.Range{spanOf(7, 7)}},
		{"a span that is covered", exampleSwaths(), spanOf(3, 20), 1, nil},
		{"one position beside a swath", exampleSwaths(), spanOf(20, 21), 1, []api.Range{spanOf(21, 21)}},
		{"a span between swaths", exampleSwaths(), spanOf(22, 25), 1, []api.Range{spanOf(22, 25)}},
		{"no swaths", nil, spanOf(3, 9), 1, []api.Range{spanOf(3, 9)}},
		{"swaths beside each other", []api.Range{spanOf(0, 4), spanOf(5, 9)}, spanOf(0, 9), 1, nil},
		{"swaths beside each other, twice", []api.Range{spanOf(0, 4), spanOf(5, 9)}, spanOf(0, 9), 2, []api.Range{spanOf(0, 9)}},
		{"a gap of one position", []api.Range{spanOf(0, 4), spanOf(6, 9)}, spanOf(0, 9), 1, []api.Range{spanOf(5, 5)}},
		{"swaths in any order", []api.Range{spanOf(6, 9), spanOf(0, 4)}, spanOf(0, 9), 1, []api.Range{spanOf(5, 5)}},
		{"one swath twice", []api.Range{spanOf(2, 3), spanOf(2, 3)}, spanOf(0, 9), 2, []api.Range{spanOf(0, 1), spanOf(4, 9)}},
		{"beyond the span", []api.Range{spanOf(0, 100000)}, spanOf(7, 8), 1, nil},
		{"the longest span", []api.Range{spanOf(1, 49999), spanOf(50001, 99999)}, all, 1, []api.Range{spanOf(0, 0), spanOf(50000, 50000), spanOf(100000, 100000)}},
		{"the longest gap", nil, all, 1, []api.Range{all}},
		{"as many swaths as possible", make([]api.Range, 12), spanOf(0, 1), 12, []api.Range{spanOf(1, 1)}},
	} {
		l, e := survey.GapsIn(c.swaths, c.span, c.need)
		want(t, "GapsIn: "+c.name, l, e, c.gaps, api.OK)
	}
}

func TestErrorsOfGapsIn(t *testing.T) {
	fine := spanOf(0, 50)
	for _, c := range []struct {
		name   string
		swaths []api.Range
		span   api.Range
		need   int
		err    api.Errno
	}{
		{"too many swaths", make([]api.Range, 13), fine, 1, api.ErrLarge},
		{"too many swaths, the first one bad", append([]api.Range{spanOf(-1, 0)}, make([]api.Range, 12)...), fine, 1, api.ErrLarge},
		{"a swath below 0", []api.Range{spanOf(-1, 3)}, fine, 1, api.ErrRange},
		{"a swath too far", []api.Range{spanOf(0, 3), spanOf(5, 100001)}, fine, 1, api.ErrRange},
		{"a swath in the wrong order", []api.Range{spanOf(4, 3)}, fine, 1, api.ErrOrder},
		{"an end before the order", []api.Range{spanOf(100001, 3)}, fine, 1, api.ErrRange},
		{"the order before the next swath", []api.Range{spanOf(4, 3), spanOf(-1, 3)}, fine, 1, api.ErrOrder},
		{"a swath before the span", []api.Range{spanOf(4, 3)}, spanOf(-1, 3), 0, api.ErrOrder},
		{"a span below 0", nil, spanOf(-1, 3), 1, api.ErrRange},
		{"a span too far", nil, spanOf(0, 100001), 1, api.ErrRange},
		{"a span to the greatest int", nil, spanOf(0, math.MaxInt), 1, api.ErrRange},
		{"a span in the wrong order", nil, spanOf(4, 3), 1, api.ErrOrder},
		{"the span before the need", nil, spanOf(4, 3), 0, api.ErrOrder},
		{"no need", exampleSwaths(), fine, 0, api.ErrRange},
		{"too great a need", exampleSwaths(), fine, 13, api.ErrRange},
		{"the least int", exampleSwaths(), fine, math.MinInt, api.ErrRange},
	} {
		l, e := survey.GapsIn(c.swaths, c.span, c.need)
		want(t, "GapsIn: "+c.name, l, e, "[]", c.err)
	}
}

func coverage(swaths []api.Range, at int) int {
	count := 0
	for _, s := range swaths {
		if has(s, at) {
			count++
		}
	}
	return count
}

// TestGapsByPositions counts the swaths of each position, and adds a further swath.
func TestGapsByPositions(t *testing.T) {
	r := newRandom()
	found := 0
	for range 3000 {
		high := []int{8, 40, 300}[r.IntN(3)]
		swaths, span, need := randomSwaths(r, high), randomRange(r, 0, high), between(r, 1, 3)
		l, e := survey.GapsIn(swaths, span, need)
		what := fmt.Sprint("GapsIn ", swaths, span, need)
		want(t, what, l, e, longest(span.Lo, span.Hi, func(at int) bool { return coverage(swaths, at) < need }), api.OK)
		for at := span.Lo; at <= span.Hi; at++ {
			if !isPart(spanOf(at, at), l) && coverage(swaths, at) < need {
				t.Errorf("%s: %d is in no gap of %v", what, at, l)
			}
		}
		for i := range max(0, len(l)-1) {
			if l[i].Hi+1 >= l[i+1].Lo {
				t.Errorf("%s: the gaps %v are beside each other", what, l)
			}
		}
		if len(swaths) == 12 {
			continue
		}
		more := slices.Insert(slices.Clone(swaths), r.IntN(len(swaths)+1), randomRange(r, 0, high))
		further, e := survey.GapsIn(more, span, need)
		for _, gap := range further {
			if !isPart(gap, l) || e != api.OK {
				t.Errorf("%s: the gap %v with the swaths %v is in none of %v", what, gap, more, l)
			}
			found++
		}
	}
	if found < 1000 {
		t.Errorf("too few gaps are tested: %d", found)
	}
}
