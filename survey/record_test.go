package survey_test

import (
	"fmt"
	"math"
	"math/rand/v2"
	"slices"
	"testing"

	"moonpool/api"
	"moonpool/survey"
)

// P9.6, P9.16

// wantReport is whether records have these merged stations, and the report that is their string.
func wantReport(t *testing.T, what string, l []api.SurveyRecord, merged []api.SurveyStation, err api.Errno) {
	t.Helper()
	stations, e := survey.MergedOf(l)
	want(t, "MergedOf: "+what, stations, e, merged, err)
	report, e := survey.ReportOf(l)
	want(t, "ReportOf: "+what, report, e, survey.FormatStations(merged), err)
}

func TestMergedOf(t *testing.T) {
	p := exampleStations()
	ann := func(s api.SurveyStation) api.SurveyRecord { return recordOf("ann", s) }
	bob := func(s api.SurveyStation) api.SurveyRecord { return recordOf("bob", s) }
	greatest := stationOf(100000, 10000, 10000, 10000, 10000)
	for _, c := range []struct {
		name    string
		records []api.SurveyRecord
		merged  []api.SurveyStation
	}{
		{"example 9", exampleRecords(), []api.SurveyStation{stationOf(0, -9, -8, -5, -4)}},
		{"none", nil, nil},
		{"one", []api.SurveyRecord{ann(p[1])}, p[1:2]},
		{"in another order", []api.SurveyRecord{bob(p[2]), ann(p[0]), bob(p[1])}, p},
		{"one twice", []api.SurveyRecord{ann(p[1]), ann(p[0]), ann(p[1])}, p[:2]},
		{"one of two vessels", []api.SurveyRecord{ann(p[1]), bob(p[1])}, p[1:2]},
		{"one within another one", []api.SurveyRecord{ann(stationOf(4, 0, 9, 0, 9)), bob(stationOf(4, 3, 5, 9, 9))}, []api.SurveyStation{stationOf(4, 3, 5, 9, 9)}},
		{"one height in common", []api.SurveyRecord{ann(stationOf(4, 0, 3, 5, 9)), bob(stationOf(4, 3, 5, 2, 5))}, []api.SurveyStation{stationOf(4, 3, 3, 5, 5)}},
		{"three of one position", []api.SurveyRecord{ann(stationOf(4, 0, 7, 0, 9)), bob(stationOf(4, 3, 9, -5, 8)), ann(stationOf(4, 2, 5, 6, 9))}, []api.SurveyStation{stationOf(4, 3, 5, 6, 8)}},
		{"the greatest numbers", []api.SurveyRecord{recordOf("A0123456789-", greatest)}, []api.SurveyStation{greatest}},
	} {
		wantReport(t, c.name, c.records, c.merged, api.OK)
	}
	report, e := survey.ReportOf(exampleRecords())
	want(t, "the report of example 9", report, e, "0 -9 -8 -5 -4", api.OK)
	report, e = survey.ReportOf(nil)
	want(t, "the report of no records", report, e, "", api.OK)
}

// recordsAt are records at so many different positions, each of them recorded so many times.
func recordsAt(positions, times int) []api.SurveyRecord {
	var l []api.SurveyRecord
	for i := range positions * times {
		l = append(l, recordOf("ann", stationOf(i%positions, 0, 0, 0, 0)))
	}
	return l
}

func TestErrorsOfRecords(t *testing.T) {
	fine := recordOf("ann", stationOf(4, 0, 3, 5, 9))
	nameless, far := recordOf("", fine.Station), recordOf("ann", stationOf(100001, 0, 0, 0, 0))
	some := func(l ...api.SurveyRecord) []api.SurveyRecord { return l }
	wantReport(t, "as many as possible", recordsAt(20, 2), survey20(), api.OK)
	for _, c := range []struct {
		name    string
		records []api.SurveyRecord
		err     api.Errno
	}{
		{"too many", recordsAt(1, 41), api.ErrLarge},
		{"too many, the first one bad", append(some(nameless), recordsAt(1, 40)...), api.ErrLarge},
		{"no name", some(fine, nameless), api.ErrName},
		{"a name too long", some(recordOf("abcdefghijklm", fine.Station)), api.ErrName},
		{"a digit first", some(recordOf("1a", fine.Station)), api.ErrName},
		{"a name with a blank", some(recordOf("a b", fine.Station)), api.ErrName},
		{"a name with another letter", some(recordOf("é", fine.Station)), api.ErrName},
		{"the name before the station", some(recordOf("", far.Station)), api.ErrName},
		{"a position too great", some(fine, far), api.ErrRange},
		{"a position below 0", some(recordOf("ann", stationOf(-1, 0, 0, 0, 0))), api.ErrRange},
		{"a height too great", some(recordOf("ann", stationOf(0, 0, 10001, 0, 0))), api.ErrRange},
		{"the least int", some(recordOf("ann", stationOf(0, 0, 0, math.MinInt, 0))), api.ErrRange},
		{"Top in the wrong order", some(recordOf("ann", stationOf(0, 1, 0, 0, 0))), api.ErrOrder},
		{"Bed in the wrong order", some(recordOf("ann", stationOf(0, 0, 0, 1, 0))), api.ErrOrder},
		{"a station before the name of the next record", some(far, nameless), api.ErrRange},
		{"a record before a clash", some(fine, recordOf("bob", stationOf(4, 4, 5, 5, 9)), nameless), api.ErrName},
		{"too many positions", recordsAt(21, 1), api.ErrLarge},
		{"a record before too many positions", append(recordsAt(21, 1), nameless), api.ErrName},
		{"too many positions before a clash", append(recordsAt(21, 1), recordOf("bob", stationOf(3, 1, 1, 0, 0))), api.ErrLarge},
		{"no top in common", some(fine, recordOf("bob", stationOf(4, 4, 5, 5, 9))), api.ErrClash},
		{"no bed in common", some(fine, recordOf("bob", stationOf(4, 0, 3, 2, 4))), api.ErrClash},
		{"no two of three", some(fine, recordOf("bob", stationOf(4, 0, 1, 5, 9)), recordOf("bob", stationOf(4, 2, 3, 5, 9))), api.ErrClash},
		{"at a later position", append(recordsAt(4, 2), fine, recordOf("bob", stationOf(4, 4, 5, 5, 9))), api.ErrClash},
		{"a clash of one vessel", some(fine, recordOf("ann", stationOf(4, 4, 5, 5, 9))), api.ErrClash},
	} {
		wantReport(t, c.name, c.records, nil, c.err)
	}
}

// survey20 are the stations of recordsAt(20, 2).
func survey20() []api.SurveyStation {
	l := make([]api.SurveyStation, 20)
	for i := range l {
		l[i].At = i
	}
	return l
}

// mergedHeights merges records by their definition: of each position the heights that all of them have.
func mergedHeights(l []api.SurveyRecord) ([]api.SurveyStation, api.Errno) {
	var merged []api.SurveyStation
	for at := range 20 {
		var tops, beds []int
		count := 0
		for height := -40; height <= 40; height++ {
			inTop, inBed := 0, 0
			count = 0
			for _, r := range l {
				if r.Station.At != at {
					continue
				}
				count++
				if has(r.Station.Top, height) {
					inTop++
				}
				if has(r.Station.Bed, height) {
					inBed++
				}
			}
			if inTop == count {
				tops = append(tops, height)
			}
			if inBed == count {
				beds = append(beds, height)
			}
		}
		if count == 0 {
			continue
		}
		if len(tops) == 0 || len(beds) == 0 {
			return nil, api.ErrClash
		}
		merged = append(merged, stationOf(at, tops[0], tops[len(tops)-1], beds[0], beds[len(beds)-1]))
	}
	return merged, api.OK
}

// disturbed are records with other vessels, in another order, and some of them twice.
func disturbed(r *rand.Rand, l []api.SurveyRecord) []api.SurveyRecord {
	l = slices.Clone(l)
	for i := range l {
		if len(l) < api.MaxSurveyRecords && r.IntN(2) == 0 {
			l = append(l, l[i])
		}
	}
	for i := range l {
		l[i].Vessel = []string{"ann", "x", "Second-2"}[r.IntN(3)]
	}
	r.Shuffle(len(l), func(i, k int) { l[i], l[k] = l[k], l[i] })
	return l
}

// TestASecondVessel is whether a report depends on nothing but the stations of records, and gives the merged ones again.
func TestASecondVessel(t *testing.T) {
	r := newRandom()
	errors := map[api.Errno]int{}
	for range 2000 {
		l := randomRecords(r)
		merged, err := mergedHeights(l)
		what := fmt.Sprint(l)
		wantReport(t, what, l, merged, err)
		wantReport(t, "with vessels, orders and records twice: "+what, disturbed(r, l), merged, err)
		errors[err]++
		if err != api.OK {
			continue
		}
		report, _ := survey.ReportOf(l)
		stations, e := survey.ParseStations(report)
		want(t, "the stations with the report of "+what, stations, e, merged, api.OK)
		for i, s := range stations {
			for _, x := range l {
				if x.Station.At == s.At && (!isPart(s.Top, []api.Range{x.Station.Top}) || !isPart(s.Bed, []api.Range{x.Station.Bed})) {
					t.Errorf("%s: the station %d, %v, is not what %v has, too", what, i, s, x)
				}
			}
		}
	}
	if errors[api.OK] < 500 || errors[api.ErrClash] < 200 {
		t.Errorf("too few reports of one kind are tested: %v", errors)
	}
}
