package cable

import (
	"iter"

	"moonpool/api"
	"moonpool/rules"
)

// WindingOf is in P1.7.
func WindingOf(path [][2]int, post [2]int) (int, api.Errno) {
	if e := pathError(path); e != api.OK {
		return 0, e
	}
	if e := postError(path, post); e != api.OK {
		return 0, e
	}
	return winding(path, post), api.OK
}

// WoundAround is in P1.7.
func WoundAround(path, posts [][2]int) ([]int, api.Errno) {
	if e := pathError(path); e != api.OK {
		return nil, e
	}
	if len(posts) > api.MaxCablePosts {
		return nil, api.ErrLarge
	}
	_, e := rules.FirstBad(posts, func(post [2]int) api.Errno { return postError(path, post) })
	if e != api.OK {
		return nil, e
	}
	var wound []int
	for i, post := range posts {
		if winding(path, post) != 0 {
			wound = append(wound, i)
		}
	}
	return wound, api.OK
}

func pathError(path [][2]int) api.Errno {
	_, e := rules.CheckList(path, 1, api.MaxCablePath, placeError)
	return e
}

func placeError(p [2]int) api.Errno { return rules.SizeError(api.MaxCablePlace, p[:]...) }

// postError is the error of a post, for a valid path.
func postError(path [][2]int, post [2]int) api.Errno {
	if e := placeError(post); e != api.OK {
		return e
	}
	for from, to := range ways(path) {
		if liesOn(from, to, post) {
			return api.ErrClash
		}
	}
	return api.OK
}

// ways yields both ends of each way of a closed path.
func ways(path [][2]int) iter.Seq2[[2]int, [2]int] {
	return func(yield func(from, to [2]int) bool) {
		for i, from := range path {
			if !yield(from, path[(i+1)%len(path)]) {
				return
			}
		}
	}
}

// winding counts how often the path crosses the ray from the post in the direction of X.
func winding(path [][2]int, post [2]int) int {
	turns := 0
	for from, to := range ways(path) {
		turns += crossing(from, to, post)
	}
	return turns
}

// crossing is 1 for a way that crosses the ray from the post towards Y, -1 for one that crosses it back, or else 0.
// The upper end of a way does not belong to it, so that a path through a position on the ray counts once.
func crossing(from, to, post [2]int) int {
	side := sideOf(from, to, post)
	if from[1] <= post[1] && post[1] < to[1] && side > 0 {
		return 1
	}
	if to[1] <= post[1] && post[1] < from[1] && side < 0 {
		return -1
	}
	return 0
}

// liesOn is whether a post lies on a way.
func liesOn(from, to, post [2]int) bool {
	return sideOf(from, to, post) == 0 && isBetween(from[0], post[0], to[0]) && isBetween(from[1], post[1], to[1])
}

// sideOf is above 0 if the post is to the left of a way, below 0 if to the right.
func sideOf(from, to, post [2]int) int {
	return (to[0]-from[0])*(post[1]-from[1]) - (to[1]-from[1])*(post[0]-from[0])
}

func isBetween(a, n, b int) bool { return min(a, b) <= n && n <= max(a, b) }
