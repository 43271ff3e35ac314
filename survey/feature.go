package survey

import (
	"moonpool/api"
	"moonpool/rules"
)

// CheckFeatures is in P9.3.
func CheckFeatures(l []api.SurveyFeature) (int, api.Errno) {
	before := 0
	return rules.CheckList(l, 0, api.MaxSurveyFeatures, func(f api.SurveyFeature) api.Errno {
		if e := featureError(f); e != api.OK {
			return e
		}
		if f.At.Lo < before {
			return api.ErrOrder
		}
		before = f.At.Lo
		return api.OK
	})
}

func featuresError(l []api.SurveyFeature) api.Errno {
	_, e := CheckFeatures(l)
	return e
}

// featureError is the error of a feature alone.
func featureError(f api.SurveyFeature) api.Errno {
	return rules.FirstError(
		rules.LimitsError(0, api.MaxSurveyAt, f.At.Lo, f.At.Hi),
		rules.LimitsError(0, api.MaxSurveySize, f.Size.Lo, f.Size.Hi),
		rules.OrderError(f.At),
		rules.OrderError(f.Size),
		rules.KindError(f.Kind, api.SurveyKinds),
	)
}
