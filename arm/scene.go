package arm

import (
	"moonpool/api"
	"moonpool/rules"
)

// CheckScene is in P6.1.
func CheckScene(s api.ArmScene) (int, api.Errno) {
	if e := rules.FirstError(boxError(s.Field), baseError(s)); e != api.OK {
		return 0, e
	}
	if i, e := rules.CheckList(s.Links, 1, api.MaxArmLinks, linkError); e != api.OK {
		return i, e
	}
	return rules.CheckList(s.Boxes, 0, api.MaxArmBoxes, boxError)
}

// CheckPose is in P6.1.
func CheckPose(s api.ArmScene, p api.ArmPose) api.Errno {
	_, e := CheckScene(s)
	return rules.FirstError(e, poseError(s, p))
}

func boxError(b api.ArmBox) api.Errno {
	return rules.FirstError(
		rules.SizeError(api.MaxArmField, b.X.Lo, b.X.Hi, b.Y.Lo, b.Y.Hi),
		rules.OrderError(b.X),
		rules.OrderError(b.Y),
	)
}

func baseError(s api.ArmScene) api.Errno {
	if !around(s.Base).liesIn(box(s.Field)) {
		return api.ErrRange
	}
	return rules.LimitError(s.Slide, 0, api.MaxArmSlide)
}

func linkError(l api.ArmLink) api.Errno {
	return rules.FirstError(
		rules.LimitError(l.Length, 1, api.MaxArmLength),
		rules.RangeError(l.Quarters, api.MaxArmTurn),
	)
}

func poseError(s api.ArmScene, p api.ArmPose) api.Errno {
	if e := rules.LimitError(p.Slide, 0, s.Slide); e != api.OK {
		return e
	}
	if len(p.Quarters) != len(s.Links) {
		return api.ErrShape
	}
	for i, l := range s.Links {
		if e := rules.LimitError(p.Quarters[i], l.Quarters.Lo, l.Quarters.Hi); e != api.OK {
			return e
		}
	}
	return api.OK
}
