package survey

import (
	"moonpool/api"
	"moonpool/rules"
)

// none stands for the index of a feature in a survey that does not have it.
const none = -1

// ChangesOf is in P9.3.
func ChangesOf(a, b []api.SurveyFeature, skip int) ([]api.SurveyChange, api.Errno) {
	x, e := newSurveys(a, b, skip)
	if e != api.OK {
		return nil, e
	}
	return x.changes(x.matched()), api.OK
}

// matched is the best match: the features of the second survey, by those of the first one.
func (x surveys) matched() map[int]int {
	matched := map[int]int{}
	for _, p := range x.bestPairs() {
		matched[p[0]] = p[1]
	}
	return matched
}

// changes are those between the surveys, by a match.
func (x surveys) changes(matched map[int]int) []api.SurveyChange {
	var changes []api.SurveyChange
	for i := range x.first {
		if c, ok := x.changeOf(i, matched); ok {
			changes = append(changes, c)
		}
	}
	var found rules.Set
	for _, j := range matched {
		found = found.With(j)
	}
	for j := range x.second {
		if !found.Has(j) {
			changes = append(changes, api.SurveyChange{Kind: api.SurveyNew, First: none, Second: j})
		}
	}
	return changes
}

// changeOf is the change of a feature of the first survey, or false if there is none.
func (x surveys) changeOf(i int, matched map[int]int) (api.SurveyChange, bool) {
	j, ok := matched[i]
	if !ok {
		return api.SurveyChange{Kind: api.SurveyLost, First: i, Second: none}, true
	}
	before, after := x.first[i].Size, x.second[j].Size
	if after.Lo > before.Hi {
		return api.SurveyChange{Kind: api.SurveyGrown, First: i, Second: j, Least: after.Lo - before.Hi}, true
	}
	if after.Hi < before.Lo {
		return api.SurveyChange{Kind: api.SurveyShrunk, First: i, Second: j, Least: before.Lo - after.Hi}, true
	}
	return api.SurveyChange{}, false
}
