package sonar

import (
	"moonpool/api"
	"moonpool/rules"
)

// CheckLayers is in P4.3.
func CheckLayers(l []api.SonarLayer) (int, api.Errno) {
	return rules.CheckList(l, 1, api.MaxSonarLayers, layerError)
}

// DepthIn is in P4.3.
func DepthIn(l []api.SonarLayer, time int) (api.Range, api.Errno) {
	if e := rules.FirstError(layersError(l), rules.LimitError(time, 0, api.MaxSonarTime)); e != api.OK {
		return api.Range{}, e
	}
	return outward(depthAfter(l, slowest, time), depthAfter(l, fastest, time)), api.OK
}

// TimeIn is in P4.3.
func TimeIn(l []api.SonarLayer, depth int) (api.Range, api.Errno) {
	if e := rules.FirstError(layersError(l), rules.LimitError(depth, 0, api.MaxSonarDepth)); e != api.OK {
		return api.Range{}, e
	}
	return outward(timeTo(l, fastest, depth), timeTo(l, slowest, depth)), api.OK
}

func layersError(l []api.SonarLayer) api.Errno {
	_, e := CheckLayers(l)
	return e
}

func layerError(x api.SonarLayer) api.Errno {
	return rules.FirstError(
		rules.LimitError(x.Thick, 1, api.MaxSonarThick),
		rules.LimitsError(1, api.MaxSonarSpeed, x.Speed.Lo, x.Speed.Hi),
		rules.OrderError(x.Speed),
	)
}

func slowest(x api.SonarLayer) int { return x.Speed.Lo }

func fastest(x api.SonarLayer) int { return x.Speed.Hi }

// outward is the range of whole numbers that holds all from low to high, neither of which is below 0.
func outward(low, high api.Frac) api.Range {
	return api.Range{Lo: low.Num / low.Den, Hi: (high.Num + high.Den - 1) / high.Den}
}

// depthAfter is the depth after a time, with one speed in each layer.
// The denominator of the time that is left divides the product of the speeds before, which is at most 10^10.
func depthAfter(l []api.SonarLayer, speedOf func(api.SonarLayer) int, time int) api.Frac {
	depth, left, last := 0, api.Frac{Num: time, Den: 1}, len(l)-1
	for _, x := range l[:last] {
		way := left.Num * speedOf(x)
		if way < x.Thick*left.Den {
			return rules.Lowest(depth*left.Den+way, left.Den)
		}
		depth += x.Thick
		left = rules.Lowest(way-x.Thick*left.Den, left.Den*speedOf(x))
	}
	return rules.Lowest(depth*left.Den+left.Num*speedOf(l[last]), left.Den)
}

// timeTo is the time to a depth, with one speed in each layer.
// Its denominator divides the product of all speeds, which is at most 10^12.
func timeTo(l []api.SonarLayer, speedOf func(api.SonarLayer) int, depth int) api.Frac {
	time := api.Frac{Den: 1}
	for i, x := range l {
		way := depth
		if i < len(l)-1 {
			way = min(depth, x.Thick)
		}
		time = rules.Lowest(time.Num*speedOf(x)+way*time.Den, time.Den*speedOf(x))
		depth -= way
	}
	return time
}
