package sonar

import (
	"moonpool/api"
	"moonpool/rules"
)

// ShadowsIn is in P4.3.
func ShadowsIn(heights []int, sonar int) ([]int, api.Errno) {
	_, e := rules.CheckList(heights, 0, api.MaxSonarHeights, heightError)
	if e := rules.FirstError(e, heightError(sonar)); e != api.OK {
		return nil, e
	}
	steeper := func(i, k int) bool { return (heights[i]-sonar)*(k+1) > (heights[k]-sonar)*(i+1) }
	var shadows []int
	steepest := 0
	for i := range heights {
		if steeper(steepest, i) {
			shadows = append(shadows, i)
		} else {
			steepest = i
		}
	}
	return shadows, api.OK
}

func heightError(height int) api.Errno { return rules.SizeError(api.MaxSonarHeight, height) }
