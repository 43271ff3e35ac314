package survey_test

import (
	"fmt"
	"math"
	"slices"
	"testing"

	"moonpool/api"
	"moonpool/survey"
)

// P9.1 (CheckStations, BurialAt, BuriedBy, BedAt), P9.8 (burials), P9.9

// manyStations are so many valid ones.
func manyStations(count int) []api.SurveyStation {
	l := make([]api.SurveyStation, count)
	for i := range l {
		l[i] = stationOf(i, 0, 1, 2, 3)
	}
	return l
}

func TestCheckStations(t *testing.T) {
	one := func(s ...api.SurveyStation) []api.SurveyStation { return s }
	bad := stationOf(-1, 0, 0, 0, 0)
	for _, c := range []struct {
		name     string
		stations []api.SurveyStation
		index    int
		err      api.Errno
	}{
		{"none", nil, 0, api.OK},
		{"the example", exampleStations(), 0, api.OK},
		{"as many as possible", manyStations(20), 0, api.OK},
		{"too many", manyStations(21), 0, api.ErrLarge},
		{"too many before a bad one", append(one(bad), manyStations(20)...), 0, api.ErrLarge},
		{"the least numbers", one(stationOf(0, -10000, -10000, -10000, -10000)), 0, api.OK},
		{"the greatest numbers", one(stationOf(100000, 10000, 10000, 10000, 10000)), 0, api.OK},
		{"neighbours", one(stationOf(4, 0, 0, 0, 0), stationOf(5, 0, 0, 0, 0)), 0, api.OK},
		{"a position below 0", one(stationOf(3, 0, 0, 0, 0), bad), 1, api.ErrRange},
		{"a position too great", one(stationOf(100001, 0, 0, 0, 0)), 0, api.ErrRange},
		{"the least position", one(stationOf(math.MinInt, 0, 0, 0, 0)), 0, api.ErrRange},
		{"Top.Lo too small", one(stationOf(0, -10001, 0, 0, 0)), 0, api.ErrRange},
		{"Top.Hi too great", one(stationOf(0, 0, 10001, 0, 0)), 0, api.ErrRange},
		{"Bed.Lo too small", one(stationOf(0, 0, 0, math.MinInt, 0)), 0, api.ErrRange},
		{"Bed.Hi too great", one(stationOf(0, 0, 0, 0, math.MaxInt)), 0, api.ErrRange},
		{"Top in the wrong order", one(stationOf(0, 1, 0, 0, 0)), 0, api.ErrOrder},
		{"Bed in the wrong order", one(stationOf(0, 0, 0, 3, 2)), 0, api.ErrOrder},
		{"a height before the order of another range", one(stationOf(0, 1, 0, 0, 10001)), 0, api.ErrRange},
		{"a height before its order", one(stationOf(0, 0, 0, 10001, 0)), 0, api.ErrRange},
		{"one position twice", one(stationOf(7, 0, 0, 0, 0), stationOf(7, 0, 0, 0, 0)), 1, api.ErrOrder},
		{"a position before the one before", one(stationOf(7, 0, 0, 0, 0), stationOf(8, 0, 0, 0, 0), stationOf(6, 0, 0, 0, 0)), 2, api.ErrOrder},
		{"the error of a station before that of its position", one(stationOf(7, 0, 0, 0, 0), stationOf(7, 0, 0, 10001, 0)), 1, api.ErrRange},
		{"the position before the next station", one(stationOf(7, 0, 0, 0, 0), stationOf(6, 0, 0, 0, 0), bad), 1, api.ErrOrder},
	} {
		i, e := survey.CheckStations(c.stations)
		want(t, "CheckStations: "+c.name, i, e, c.index, c.err)
	}
}

func TestBurialAt(t *testing.T) {
	for i, burial := range []api.Range{spanOf(3, 6), spanOf(-11, -8), spanOf(-7, -2)} {
		r, e := survey.BurialAt(exampleStations(), i)
		want(t, fmt.Sprint("BurialAt ", i), r, e, burial, api.OK)
	}
	r, e := survey.BurialAt([]api.SurveyStation{stationOf(0, -10000, 10000, -10000, 10000)}, 0)
	want(t, "BurialAt of the widest ranges", r, e, spanOf(-20000, 20000), api.OK)
	for _, bad := range []int{-1, 3, math.MaxInt, math.MinInt} {
		r, e := survey.BurialAt(exampleStations(), bad)
		want(t, fmt.Sprint("BurialAt ", bad), r, e, api.Range{}, api.ErrMissing)
	}
	r, e = survey.BurialAt(nil, 0)
	want(t, "BurialAt without stations", r, e, api.Range{}, api.ErrMissing)
}

func TestBuriedBy(t *testing.T) {
	l := exampleStations()
	for _, c := range []struct {
		name     string
		stations []api.SurveyStation
		depth    int
		counts   [3]int
		err      api.Errno
	}{
		{"example 1", l, 4, [3]int{2, 1, 0}, api.OK},
		{"example 1, less deep", l, 3, [3]int{2, 0, 1}, api.OK},
		{"the upper end", l, 6, [3]int{2, 1, 0}, api.OK},
		{"deeper than the upper end", l, 7, [3]int{3, 0, 0}, api.OK},
		{"a depth below 0", l, -7, [3]int{1, 0, 2}, api.OK},
		{"in between", l, -4, [3]int{1, 1, 1}, api.OK},
		{"the upper end of another one", l, -8, [3]int{0, 1, 2}, api.OK},
		{"the greatest depth", l, 10000, [3]int{3, 0, 0}, api.OK},
		{"the least depth", l, -10000, [3]int{0, 0, 3}, api.OK},
		{"no stations", nil, 5, [3]int{}, api.OK},
		{"a depth too great", l, 10001, [3]int{}, api.ErrRange},
		{"a depth too small", l, -10001, [3]int{}, api.ErrRange},
		{"the least int", nil, math.MinInt, [3]int{}, api.ErrRange},
	} {
		counts, e := survey.BuriedBy(c.stations, c.depth)
		want(t, "BuriedBy: "+c.name, counts, e, c.counts, c.err)
	}
}

// heights yields all true heights in both ranges of a station.
func heights(s api.SurveyStation, do func(top, bed int)) {
	for top := s.Top.Lo; top <= s.Top.Hi; top++ {
		for bed := s.Bed.Lo; bed <= s.Bed.Hi; bed++ {
			do(top, bed)
		}
	}
}

// TestBurialsOfTrueHeights takes all true heights that the ranges permit: both ends of burials are some of theirs, and what is surely so is so for all of them.
func TestBurialsOfTrueHeights(t *testing.T) {
	r := newRandom()
	for range 500 {
		var l []api.SurveyStation
		for _, at := range positions(r, between(r, 1, 20)) {
			l = append(l, randomStation(r, at, 8))
		}
		depth := between(r, -17, 17)
		var counts [3]int
		for i, s := range l {
			var burials []int
			deep := 0
			heights(s, func(top, bed int) {
				burials = append(burials, bed-top)
				if bed-top >= depth {
					deep++
				}
			})
			burial, e := survey.BurialAt(l, i)
			want(t, fmt.Sprint("BurialAt ", i, l), burial, e, spanOf(slices.Min(burials), slices.Max(burials)), api.OK)
			switch deep {
			case 0:
				counts[api.AnswerNo]++
			case len(burials):
				counts[api.AnswerYes]++
			default:
				counts[api.AnswerMaybe]++
			}
		}
		got, e := survey.BuriedBy(l, depth)
		want(t, fmt.Sprint("BuriedBy ", depth, l), got, e, counts, api.OK)
	}
}

func TestBedAt(t *testing.T) {
	l := exampleStations()
	alone := []api.SurveyStation{stationOf(40, 0, 0, -3, 7)}
	steep := []api.SurveyStation{stationOf(0, 0, 0, 10, 10), stationOf(3, 0, 0, 11, 11), stationOf(100000, 0, 0, -10000, 10000)}
	for _, c := range []struct {
		name     string
		stations []api.SurveyStation
		at       int
		bed      api.Range
		err      api.Errno
	}{
		{"example 2", l, 50, spanOf(-13, -11), api.OK},
		{"the first station", l, 0, spanOf(-5, -4), api.OK},
		{"beside it", l, 1, spanOf(-6, -4), api.OK},
		{"before a station", l, 99, spanOf(-20, -17), api.OK},
		{"a station", l, 100, spanOf(-20, -18), api.OK},
		{"between further stations", l, 150, spanOf(-18, -15), api.OK},
		{"the last station", l, 200, spanOf(-16, -13), api.OK},
		{"before the first one", l, -1, api.Range{}, api.ErrMissing},
		{"behind the last one", l, 201, api.Range{}, api.ErrMissing},
		{"the least int", l, math.MinInt, api.Range{}, api.ErrMissing},
		{"the greatest int", l, math.MaxInt, api.Range{}, api.ErrMissing},
		{"no stations", nil, 0, api.Range{}, api.ErrMissing},
		{"a station alone", alone, 40, spanOf(-3, 7), api.OK},
		{"before a station alone", alone, 39, api.Range{}, api.ErrMissing},
		{"behind a station alone", alone, 41, api.Range{}, api.ErrMissing},
		{"a third of 1", steep, 1, spanOf(10, 11), api.OK},
		{"two thirds of 1", steep, 2, spanOf(10, 11), api.OK},
		{"far away", steep, 99999, spanOf(-10000, 10000), api.OK},
	} {
		r, e := survey.BedAt(c.stations, c.at)
		want(t, "BedAt: "+c.name, r, e, c.bed, c.err)
	}
}

// lineAt is a straight line through two heights, at a position, and whether it is whole there.
func lineAt(a, b api.SurveyStation, from, to, at int) (int, bool) {
	sum := from*(b.At-at) + to*(at-a.At)
	return sum / (b.At - a.At), sum%(b.At-a.At) == 0
}

// TestBedContainsLines draws straight lines between true heights of neighbouring stations.
func TestBedContainsLines(t *testing.T) {
	r := newRandom()
	whole := 0
	for range 20000 {
		l := randomStations(r, 6)
		if len(l) < 2 {
			continue
		}
		i := r.IntN(len(l) - 1)
		a, b := l[i], l[i+1]
		at := between(r, a.At, b.At)
		bed, e := survey.BedAt(l, at)
		for _, ends := range [][2]int{{a.Bed.Lo, b.Bed.Lo}, {a.Bed.Hi, b.Bed.Hi}, {between(r, a.Bed.Lo, a.Bed.Hi), between(r, b.Bed.Lo, b.Bed.Hi)}} {
			height, isWhole := lineAt(a, b, ends[0], ends[1], at)
			if isWhole && !has(bed, height) || e != api.OK {
				t.Errorf("%v: the line from %d to %d at %d is %d: the bed is %v, error %d", l, ends[0], ends[1], at, height, bed, e)
			}
			if isWhole {
				whole++
			}
		}
		low, high := ratio(a.Bed.Lo*(b.At-at)+b.Bed.Lo*(at-a.At), b.At-a.At), ratio(a.Bed.Hi*(b.At-at)+b.Bed.Hi*(at-a.At), b.At-a.At)
		if ratio(bed.Lo, 1).Cmp(low) > 0 || ratio(bed.Lo+1, 1).Cmp(low) <= 0 || ratio(bed.Hi, 1).Cmp(high) < 0 || ratio(bed.Hi-1, 1).Cmp(high) >= 0 {
			t.Errorf("%v: the bed at %d is %v, but the lines are at %v and %v", l, at, bed, low, high)
		}
	}
	if whole < 1000 {
		t.Errorf("too few whole heights are tested: %d", whole)
	}
}

// TestBedMovesWithStations moves along the pipe, one position after the other.
func TestBedMovesWithStations(t *testing.T) {
	r := newRandom()
	size := func(n int) int { return max(n, -n) }
	for range 100 {
		l := randomStations(r, 6)
		for i := range max(0, len(l)-1) {
			a, b := l[i], l[i+1]
			before := a.Bed
			for at := a.At + 1; at <= b.At; at++ {
				bed, e := survey.BedAt(l, at)
				if size(bed.Lo-before.Lo) > size(b.Bed.Lo-a.Bed.Lo) || size(bed.Hi-before.Hi) > size(b.Bed.Hi-a.Bed.Hi) || e != api.OK {
					t.Errorf("%v: from %d to %d the bed changes from %v to %v, error %d", l, at-1, at, before, bed, e)
				}
				before = bed
			}
			want(t, fmt.Sprint("the bed at the next station of ", l), before, api.OK, b.Bed, api.OK)
		}
	}
}
