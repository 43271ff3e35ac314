package fix

import (
	"moonpool/api"
	"moonpool/rules"
)

// CheckNet is in P5.1.
func CheckNet(n api.FixNet) (int, api.Errno) {
	if e := worldError(n.World); e != api.OK {
		return 0, e
	}
	nameError := rules.NameErrors(api.ErrExists)
	return rules.CheckList(n.Beacons, 0, api.MaxFixBeacons, func(b api.FixBeacon) api.Errno {
		return rules.FirstError(nameError(b.Name), rules.SizeError(api.MaxFixPlace, b.Place.X, b.Place.Y, b.Place.Z))
	})
}

// CheckBox is in P5.1.
func CheckBox(n api.FixNet, b api.FixBox) api.Errno {
	if e := rules.FirstError(netError(n), boxOf(b).orderError()); e != api.OK {
		return e
	}
	if !boxOf(b).liesIn(boxOf(n.World)) {
		return api.ErrRange
	}
	return api.OK
}

func netError(n api.FixNet) api.Errno {
	_, e := CheckNet(n)
	return e
}

func worldError(world api.FixBox) api.Errno {
	return rules.FirstError(
		rules.SizeError(api.MaxFixPlace, world.X.Lo, world.X.Hi, world.Y.Lo, world.Y.Hi),
		rules.LimitsError(0, api.MaxFixPlace, world.Z.Lo, world.Z.Hi),
		boxOf(world).orderError(),
	)
}
