package fix

import (
	"moonpool/api"
	"moonpool/rules"
)

// Carried is in P5.2.
func Carried(n api.FixNet, b api.FixBox, m api.FixMove) (api.FixBox, api.Errno) {
	if e := rules.FirstError(CheckBox(n, b), moveError(m)); e != api.OK {
		return api.FixBox{}, e
	}
	carried := boxOf(b).carried(m).common(boxOf(n.World))
	if carried.isEmpty() {
		return api.FixBox{}, api.ErrNone
	}
	return carried.given(), api.OK
}

// CarriedBack is in P5.2.
func CarriedBack(n api.FixNet, b api.FixBox, m api.FixMove) (api.FixBox, api.Errno) {
	return Carried(n, b, reversed(m))
}

func moveError(m api.FixMove) api.Errno {
	speed := boxOf(m.Speed)
	return rules.FirstError(
		rules.LimitError(m.Ticks, 0, api.MaxFixTicks),
		rules.SizeError(api.MaxFixSpeed, speed.ends()...),
		speed.orderError(),
	)
}

// reversed is the move that carries a box back. It has the error of the given one.
func reversed(m api.FixMove) api.FixMove {
	speed := boxOf(m.Speed)
	for i, r := range speed {
		speed[i] = api.Range{Lo: -r.Hi, Hi: -r.Lo}
	}
	return api.FixMove{Ticks: m.Ticks, Speed: speed.given()}
}

// carried is a box carried by a valid move, without anything cut off.
func (b box) carried(m api.FixMove) box {
	for i, speed := range boxOf(m.Speed) {
		b[i].Lo += m.Ticks * speed.Lo
		b[i].Hi += m.Ticks * speed.Hi
	}
	return b
}
