package cable_test

import (
	"math"
	"math/rand/v2"
	"slices"
	"testing"

	"moonpool/api"
	"moonpool/cable"
)

// P1.7, P1.14

func square4() [][2]int { return [][2]int{{0, 0}, {4, 0}, {4, 4}, {0, 4}} }

func TestWindingOf(t *testing.T) {
	twice := slices.Concat(square4(), square4())
	star := [][2]int{{0, 10}, {-6, -8}, {9, 3}, {-9, 3}, {6, -8}}
	eight := [][2]int{{0, 0}, {4, 4}, {4, 0}, {0, 4}}
	for _, c := range []struct {
		name    string
		path    [][2]int
		post    [2]int
		winding int
		err     api.Errno
	}{
		{"inside", square4(), [2]int{1, 2}, 1, api.OK},
		{"outside", square4(), [2]int{9, 9}, 0, api.OK},
		{"beside, at a corner's height", square4(), [2]int{-1, 0}, 0, api.OK},
		{"beside, at the other corner's height", square4(), [2]int{-1, 4}, 0, api.OK},
		{"twice", twice, [2]int{1, 2}, 2, api.OK},
		{"star", star, [2]int{0, 0}, 2, api.OK},
		{"a point of the star", star, [2]int{0, 5}, 1, api.OK},
		{"eight, right loop", eight, [2]int{3, 2}, -1, api.OK},
		{"eight, left loop", eight, [2]int{1, 2}, 1, api.OK},
		{"diamond, at the height of corners", [][2]int{{2, 0}, {0, 2}, {-2, 0}, {0, -2}}, [2]int{0, 0}, 1, api.OK},
		{"one position", [][2]int{{1, 1}}, [2]int{0, 1}, 0, api.OK},
		{"along a line and back", [][2]int{{0, 0}, {6, 3}}, [2]int{3, 1}, 0, api.OK},
		{"beyond a line and back", [][2]int{{0, 0}, {6, 3}}, [2]int{8, 4}, 0, api.OK},
		{"over some positions and back", [][2]int{{0, 0}, {3, 0}, {3, 3}, {3, 0}}, [2]int{1, 1}, 0, api.OK},
		{"limits", [][2]int{{-10000, -10000}, {10000, -10000}, {10000, 10000}, {-10000, 10000}}, [2]int{9999, -9999}, 1, api.OK},
		{"on a way", square4(), [2]int{4, 2}, 0, api.ErrClash},
		{"on the last way", square4(), [2]int{0, 2}, 0, api.ErrClash},
		{"on a corner", square4(), [2]int{4, 4}, 0, api.ErrClash},
		{"on a slope", [][2]int{{0, 0}, {6, 3}}, [2]int{4, 2}, 0, api.ErrClash},
		{"on the only position", [][2]int{{1, 1}}, [2]int{1, 1}, 0, api.ErrClash},
		{"at the crossing of the eight", eight, [2]int{2, 2}, 0, api.ErrClash},
	} {
		n, e := cable.WindingOf(c.path, c.post)
		want(t, c.name, n, e, c.winding, c.err)
	}
}

func TestErrorsOfPaths(t *testing.T) {
	thirty := make([][2]int, 30)
	for _, c := range []struct {
		name string
		path [][2]int
		err  api.Errno
	}{
		{"none", nil, api.ErrShape},
		{"empty", [][2]int{}, api.ErrShape},
		{"too many", make([][2]int, 31), api.ErrLarge},
		{"large before items", append(slices.Clone(thirty), [2]int{10001, 0}), api.ErrLarge},
		{"X too great", [][2]int{{0, 0}, {10001, 0}}, api.ErrRange},
		{"X too small", [][2]int{{-10001, 0}}, api.ErrRange},
		{"Y too great", [][2]int{{0, 10001}}, api.ErrRange},
		{"Y too small", [][2]int{{0, 0}, {0, 0}, {0, -10001}}, api.ErrRange},
		{"the least int", [][2]int{{0, math.MinInt}}, api.ErrRange},
	} {
		n, e := cable.WindingOf(c.path, [2]int{20000, 0})
		want(t, "WindingOf: "+c.name, n, e, 0, c.err)
		x, e := cable.WoundAround(c.path, make([][2]int, 11))
		want(t, "WoundAround: "+c.name, x, e, []int(nil), c.err)
	}
	n, e := cable.WindingOf(thirty, [2]int{1, 0})
	want(t, "thirty positions", n, e, 0, api.OK)
}

func TestErrorsOfPosts(t *testing.T) {
	for _, post := range [][2]int{{10001, 0}, {-10001, 0}, {0, 10001}, {0, -10001}, {math.MinInt, 0}, {0, math.MaxInt}} {
		n, e := cable.WindingOf(square4(), post)
		want(t, "WindingOf", n, e, 0, api.ErrRange)
		x, e := cable.WoundAround(square4(), [][2]int{{1, 1}, post})
		want(t, "WoundAround", x, e, []int(nil), api.ErrRange)
	}
}

func TestWoundAround(t *testing.T) {
	ten := slices.Repeat([][2]int{{1, 1}}, 10)
	for _, c := range []struct {
		name  string
		posts [][2]int
		wound []int
		err   api.Errno
	}{
		{"some", [][2]int{{9, 9}, {1, 2}, {3, 3}}, []int{1, 2}, api.OK},
		{"none", [][2]int{{9, 9}}, nil, api.OK},
		{"no posts", nil, nil, api.OK},
		{"ten", ten, []int{0, 1, 2, 3, 4, 5, 6, 7, 8, 9}, api.OK},
		{"too many", append(slices.Clone(ten), [2]int{1, 1}), nil, api.ErrLarge},
		{"large before items", append(slices.Clone(ten), [2]int{10001, 1}), nil, api.ErrLarge},
		{"on the path", [][2]int{{1, 2}, {4, 2}}, nil, api.ErrClash},
		{"items in their order", [][2]int{{4, 2}, {10001, 0}}, nil, api.ErrClash},
		{"items in their order, the other way", [][2]int{{10001, 0}, {4, 2}}, nil, api.ErrRange},
	} {
		x, e := cable.WoundAround(square4(), c.posts)
		want(t, c.name, x, e, c.wound, c.err)
	}
	reversed := square4()
	slices.Reverse(reversed)
	x, e := cable.WoundAround(reversed, [][2]int{{1, 2}})
	want(t, "a winding of -1", x, e, []int{0}, api.OK)
	x, e = cable.WoundAround([][2]int{{0, 0}, {4, 4}, {4, 0}, {0, 4}}, [][2]int{{3, 2}, {1, 2}})
	want(t, "windings of -1 and 1", x, e, []int{0, 1}, api.OK)
}

func randomPlaces(r *rand.Rand, count, size int) [][2]int {
	var places [][2]int
	for range count {
		places = append(places, [2]int{between(r, -size, size), between(r, -size, size)})
	}
	return places
}

// windingByAngles is the sum of the angles at which the post sees the ways.
func windingByAngles(path [][2]int, post [2]int) int {
	sum := 0.0
	for i := range path {
		a, b := path[i], path[(i+1)%len(path)]
		ax, ay := float64(a[0]-post[0]), float64(a[1]-post[1])
		bx, by := float64(b[0]-post[0]), float64(b[1]-post[1])
		sum += math.Atan2(ax*by-ay*bx, ax*bx+ay*by)
	}
	return int(math.Round(sum / (2 * math.Pi)))
}

// onPath is whether some way has the post between its ends: both parts of it are as long as the way.
func onPath(path [][2]int, post [2]int) bool {
	for i := range path {
		a, b := path[i], path[(i+1)%len(path)]
		dx, dy, px, py := b[0]-a[0], b[1]-a[1], post[0]-a[0], post[1]-a[1]
		along, length := dx*px+dy*py, dx*dx+dy*dy
		if dx*py == dy*px && (length > 0 && 0 <= along && along <= length || length == 0 && px == 0 && py == 0) {
			return true
		}
	}
	return false
}

func TestWindingByAngles(t *testing.T) {
	r := newRandom()
	seen := map[int]int{}
	for range 5000 {
		size := []int{2, 5, 10000}[r.IntN(3)]
		path := randomPlaces(r, between(r, 1, api.MaxCablePath), size)
		post := randomPlaces(r, 1, size)[0]
		n, e := cable.WindingOf(path, post)
		if onPath(path, post) {
			want(t, "WindingOf", n, e, 0, api.ErrClash)
			continue
		}
		seen[n]++
		want(t, "WindingOf", n, e, windingByAngles(path, post), api.OK)
	}
	if seen[0] < 50 || seen[1] < 50 || seen[-1] < 50 || seen[2] == 0 {
		t.Errorf("too few windings of a kind: %v", seen)
	}
}

func TestTurns(t *testing.T) {
	r := newRandom()
	for range 2000 {
		path := randomPlaces(r, between(r, 1, 12), 6)
		post := randomPlaces(r, 1, 6)[0]
		n, err := cable.WindingOf(path, post)
		reversed := slices.Clone(path)
		slices.Reverse(reversed)
		x, e := cable.WindingOf(reversed, post)
		want(t, "in reverse order", x, e, -n, err)
		at := r.IntN(len(path))
		x, e = cable.WindingOf(slices.Concat(path[at:], path[:at]), post)
		want(t, "from another position on", x, e, n, err)
		by := randomPlaces(r, 1, 9000)[0]
		moved := slices.Clone(path)
		for i := range moved {
			moved[i] = [2]int{moved[i][0] + by[0], moved[i][1] + by[1]}
		}
		x, e = cable.WindingOf(moved, [2]int{post[0] + by[0], post[1] + by[1]})
		want(t, "moved", x, e, n, err)
	}
}
