package survey

import (
	"iter"

	"moonpool/api"
	"moonpool/rules"
)

// point is a corner of a route, or the way from one corner to another one.
type point [2]int

// segment is a segment of a route.
type segment struct {
	from, to point
	isLast   bool // whether it has its second end, too
}

// CrossingsOf is in P9.2.
func CrossingsOf(a, b [][2]int) ([]api.SurveyCrossing, api.Errno) {
	if e := rules.FirstError(routeError(a), routeError(b)); e != api.OK {
		return nil, e
	}
	var crossings []api.SurveyCrossing
	for i, s := range segments(a) {
		for j, t := range segments(b) {
			if p, ok := s.crossing(t); ok {
				crossings = append(crossings, api.SurveyCrossing{First: i, Second: j, Point: p})
			}
		}
	}
	return crossings, api.OK
}

func routeError(route [][2]int) api.Errno {
	before := [2]int{api.MaxSurveyPart + 1} // the first corner has none before it, and none lies there
	_, e := rules.CheckList(route, 2, api.MaxSurveyCorners, func(corner [2]int) api.Errno {
		isSame := corner == before
		before = corner
		if e := placeError(corner); e != api.OK {
			return e
		}
		if isSame {
			return api.ErrZero
		}
		return api.OK
	})
	return e
}

// placeError is the error of a corner of a route, or of an end of a line.
func placeError(p [2]int) api.Errno { return rules.SizeError(api.MaxSurveyPart, p[:]...) }

// segments yields the segments of a route, with their indexes.
func segments(route [][2]int) iter.Seq2[int, segment] {
	return func(yield func(index int, s segment) bool) {
		last := len(route) - 2
		for i := range last + 1 {
			if !yield(i, segment{from: route[i], to: route[i+1], isLast: i == last}) {
				return
			}
		}
	}
}

// crossing is the point in which two segments cross, or false if they do not.
func (s segment) crossing(t segment) (api.SurveyPoint, bool) {
	way, other, apart := s.to.minus(s.from), t.to.minus(t.from), t.from.minus(s.from)
	// On both segments the point lies behind the first end by a part of the way, which is one of these divided by den.
	den, part, otherPart := way.across(other), apart.across(other), apart.across(way)
	if den < 0 {
		den, part, otherPart = -den, -part, -otherPart
	}
	if den == 0 || !s.has(part, den) || !t.has(otherPart, den) {
		return api.SurveyPoint{}, false
	}
	return api.SurveyPoint{
		X: rules.Lowest(s.from[0]*den+way[0]*part, den),
		Y: rules.Lowest(s.from[1]*den+way[1]*part, den),
	}, true
}

// has is whether a segment has the point that lies behind its first end by a part of its way, divided by den.
func (s segment) has(part, den int) bool {
	return 0 <= part && (part < den || s.isLast && part == den)
}

func (p point) minus(q point) point { return point{p[0] - q[0], p[1] - q[1]} }

// across is 0 if two ways are parallel.
func (p point) across(q point) int { return p[0]*q[1] - p[1]*q[0] }
