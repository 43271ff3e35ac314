package fix

import (
	"moonpool/api"
	"moonpool/rules"
)

// DepthIn is in P5.2.
func DepthIn(pressure, density api.Range) (api.Range, api.Errno) {
	e := rules.FirstError(
		rules.LimitsError(0, api.MaxFixPressure, pressure.Lo, pressure.Hi),
		rules.LimitsError(1, api.MaxFixDensity, density.Lo, density.Hi),
		rules.OrderError(pressure),
		rules.OrderError(density),
	)
	if e != api.OK {
		return api.Range{}, e
	}
	return api.Range{
		Lo: pressure.Lo * api.FixScale / density.Hi,
		Hi: (pressure.Hi*api.FixScale + density.Lo - 1) / density.Lo,
	}, api.OK
}

// SquaresIn is in P5.2.
func SquaresIn(n api.FixNet, beacon int, b api.FixBox) (api.Range, api.Errno) {
	if e := rules.FirstError(netError(n), rules.IndexError(beacon, len(n.Beacons)), CheckBox(n, b)); e != api.OK {
		return api.Range{}, e
	}
	return placeOf(n.Beacons[beacon].Place).squaresTo(boxOf(b)), api.OK
}
