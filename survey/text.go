package survey

import (
	"moonpool/api"
	"moonpool/rules"
)

// digits is how many digits the numbers of a string have at most.
const digits = 6

// The words of the string of a station.
const (
	atWord = iota
	topLowWord
	topHighWord
	bedLowWord
	bedHighWord
	stationWords // how many there are
)

// The words of the string of a feature.
const (
	atLowWord = iota
	atHighWord
	kindWord
	sizeLowWord
	sizeHighWord
	featureWords // how many there are
)

// FormatStations is in P9.7.
func FormatStations(l []api.SurveyStation) string {
	return rules.Joined(l, ";", func(s api.SurveyStation) string {
		return rules.Written(s.At, s.Top.Lo, s.Top.Hi, s.Bed.Lo, s.Bed.Hi)
	})
}

// ParseStations is in P9.7.
func ParseStations(s string) ([]api.SurveyStation, api.Errno) {
	return rules.Parsed(s, readStations, stationsError)
}

// FormatFeatures is in P9.7.
func FormatFeatures(l []api.SurveyFeature) string {
	return rules.Joined(l, ";", func(f api.SurveyFeature) string {
		return rules.Written(f.At.Lo, f.At.Hi, f.Kind, f.Size.Lo, f.Size.Hi)
	})
}

// ParseFeatures is in P9.7.
func ParseFeatures(s string) ([]api.SurveyFeature, api.Errno) {
	return rules.Parsed(s, readFeatures, featuresError)
}

// readStations reads any stations, valid or not.
func readStations(s string) ([]api.SurveyStation, bool) { return rules.ReadAny(s, ";", readStation) }

func readStation(s string) (api.SurveyStation, bool) {
	n, ok := rules.NumbersIn(s, digits, atWord)
	if !ok || len(n) != stationWords {
		return api.SurveyStation{}, false
	}
	return api.SurveyStation{
		At:  n[atWord],
		Top: api.Range{Lo: n[topLowWord], Hi: n[topHighWord]},
		Bed: api.Range{Lo: n[bedLowWord], Hi: n[bedHighWord]},
	}, true
}

// readFeatures reads any features, valid or not.
func readFeatures(s string) ([]api.SurveyFeature, bool) { return rules.ReadAny(s, ";", readFeature) }

func readFeature(s string) (api.SurveyFeature, bool) {
	n, ok := rules.CountsIn(s, digits)
	if !ok || len(n) != featureWords {
		return api.SurveyFeature{}, false
	}
	return api.SurveyFeature{
		At:   api.Range{Lo: n[atLowWord], Hi: n[atHighWord]},
		Kind: n[kindWord],
		Size: api.Range{Lo: n[sizeLowWord], Hi: n[sizeHighWord]},
	}, true
}
