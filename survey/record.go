package survey

import (
	"maps"
	"slices"

	"moonpool/api"
	"moonpool/rules"
)

// MergedOf is in P9.6.
func MergedOf(l []api.SurveyRecord) ([]api.SurveyStation, api.Errno) {
	if e := recordsError(l); e != api.OK {
		return nil, e
	}
	stations := merged(l)
	if _, e := rules.CheckList(stations, 0, api.MaxSurveyStations, commonError); e != api.OK {
		return nil, e
	}
	return stations, api.OK
}

// ReportOf is in P9.6.
func ReportOf(l []api.SurveyRecord) (string, api.Errno) {
	stations, e := MergedOf(l)
	return FormatStations(stations), e
}

func recordsError(l []api.SurveyRecord) api.Errno {
	_, e := rules.CheckList(l, 0, api.MaxSurveyRecords, func(r api.SurveyRecord) api.Errno {
		return rules.FirstError(rules.NameError(r.Vessel), stationError(r.Station))
	})
	return e
}

// merged are the stations of records, merged by position, by ascending positions.
func merged(l []api.SurveyRecord) []api.SurveyStation {
	at := map[int]api.SurveyStation{}
	for _, r := range l {
		s := r.Station
		if earlier, ok := at[s.At]; ok {
			s.Top, s.Bed = rules.Common(s.Top, earlier.Top), rules.Common(s.Bed, earlier.Bed)
		}
		at[s.At] = s
	}
	var stations []api.SurveyStation
	for _, position := range slices.Sorted(maps.Keys(at)) {
		stations = append(stations, at[position])
	}
	return stations
}

// commonError is ErrClash if the records of a merged station have nothing in common.
func commonError(s api.SurveyStation) api.Errno {
	if rules.FirstError(rules.OrderError(s.Top), rules.OrderError(s.Bed)) != api.OK {
		return api.ErrClash
	}
	return api.OK
}
