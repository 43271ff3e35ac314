package cable_test

import (
	"math"
	"math/rand/v2"
	"testing"

	"moonpool/api"
	"moonpool/cable"
)

// P1.6, P1.13

func reading(link, lo, hi int) api.CableReading {
	return api.CableReading{Link: link, X: api.Range{Lo: lo, Hi: hi}}
}

func TestContradictions(t *testing.T) {
	l, b := exampleLine(), exampleBox()
	for _, c := range []struct {
		name     string
		readings []api.CableReading
		set      []int
		distance int
	}{
		{"one above the pull", []api.CableReading{reading(0, 0, 20), reading(2, 20, 30)}, []int{1}, 8},
		{"one below the pull", []api.CableReading{reading(0, -9, 5)}, []int{0}, 1},
		{"the first one", []api.CableReading{reading(1, -4, 12), reading(2, 13, 13), reading(0, 0, 5)}, []int{1}, 1},
		{"two", []api.CableReading{reading(0, 6, 6), reading(1, 10, 11)}, []int{0, 1}, 4},
		{"two, the upper one first", []api.CableReading{reading(1, 10, 11), reading(0, 6, 6)}, []int{0, 1}, 4},
		{"two, the other way", []api.CableReading{reading(0, 12, 12), reading(1, -4, 1)}, []int{0, 1}, 1},
		{"two with a link between", []api.CableReading{reading(0, 6, 6), reading(2, 8, 12)}, []int{0, 1}, 2},
		{"two of one link", []api.CableReading{reading(1, 5, 12), reading(1, -4, 3)}, []int{0, 1}, 2},
		{"one before two", []api.CableReading{reading(0, 6, 6), reading(1, 10, 11), reading(2, 13, 20)}, []int{2}, 1},
		{"the first two", []api.CableReading{reading(1, -4, 12), reading(0, 12, 12), reading(1, -4, 0), reading(1, -4, -3)}, []int{1, 2}, 2},
	} {
		x, e := cable.ContradictionOf(l, b, c.readings)
		want(t, "ContradictionOf "+c.name, x, e, c.set, api.OK)
		n, e := cable.CheckContradiction(l, b, c.readings, c.set)
		want(t, "CheckContradiction of "+c.name, n, e, c.distance, api.OK)
	}
}

func TestNoContradiction(t *testing.T) {
	l, b := exampleLine(), exampleBox()
	for _, r := range [][]api.CableReading{
		nil,
		{reading(0, 12, 30)},
		{reading(0, -5, 6)},
		{reading(0, 6, 6), reading(1, 6, 9)},
		{reading(0, 6, 6), reading(1, -9, -4)},
		{reading(2, 0, 5), reading(2, 5, 9), reading(0, 7, 7)},
		{reading(0, 7, 7), reading(1, 1, 1)},
	} {
		x, e := cable.ContradictionOf(l, b, r)
		want(t, "ContradictionOf", x, e, []int(nil), api.ErrNone)
	}
}

func TestCheckContradictionOfOthers(t *testing.T) {
	l, b := exampleLine(), exampleBox()
	r := []api.CableReading{reading(0, 6, 6), reading(1, 10, 11), reading(2, 20, 30), reading(0, 0, 9), reading(2, 40, 50)}
	for _, c := range []struct {
		name     string
		set      []int
		distance int
		err      api.Errno
	}{
		{"two", []int{0, 1}, 4, api.OK},
		{"one", []int{2}, 8, api.OK},
		{"two, one of which is enough", []int{0, 2}, 14, api.OK},
		{"two, both of which are enough", []int{2, 4}, 10, api.OK},
		{"none", nil, 0, api.ErrShape},
		{"three", []int{0, 1, 2}, 0, api.ErrShape},
		{"shape before items", []int{9, 9, 9}, 0, api.ErrShape},
		{"missing", []int{5}, 0, api.ErrMissing},
		{"negative", []int{-1, 2}, 0, api.ErrMissing},
		{"the least int", []int{0, math.MinInt}, 0, api.ErrMissing},
		{"order", []int{1, 0}, 0, api.ErrOrder},
		{"twice", []int{2, 2}, 0, api.ErrOrder},
		{"missing before order", []int{1, -1}, 0, api.ErrMissing},
		{"one that agrees", []int{1}, 0, api.ErrProof},
		{"two that agree", []int{0, 3}, 0, api.ErrProof},
	} {
		n, e := cable.CheckContradiction(l, b, r, c.set)
		want(t, c.name, n, e, c.distance, c.err)
	}
	far := []api.CableReading{reading(1, 13, 20), reading(2, 15, 30)}
	n, e := cable.CheckContradiction(l, b, far, []int{0, 1})
	want(t, "two of which each contradicts the load, but not the other one", n, e, 0, api.ErrProof)
}

func TestErrorsOfReadings(t *testing.T) {
	l, b := exampleLine(), exampleBox()
	for _, c := range []struct {
		name     string
		readings []api.CableReading
		err      api.Errno
	}{
		{"too many", make([]api.CableReading, 13), api.ErrLarge},
		{"large before items", append(make([]api.CableReading, 12), reading(-1, 0, 0)), api.ErrLarge},
		{"no such link", []api.CableReading{reading(3, 0, 0)}, api.ErrMissing},
		{"a negative link", []api.CableReading{reading(-1, 0, 0)}, api.ErrMissing},
		{"link before range", []api.CableReading{reading(3, 30000, 0)}, api.ErrMissing},
		{"Lo too small", []api.CableReading{reading(0, -20001, 0)}, api.ErrRange},
		{"Lo the least int", []api.CableReading{reading(0, math.MinInt, 0)}, api.ErrRange},
		{"Hi too great", []api.CableReading{reading(0, 0, 20001)}, api.ErrRange},
		{"range before order", []api.CableReading{reading(0, 20001, 0)}, api.ErrRange},
		{"order", []api.CableReading{reading(0, 1, 0)}, api.ErrOrder},
		{"items in their order", []api.CableReading{reading(0, 0, 0), reading(0, 1, 0), reading(3, 0, 0)}, api.ErrOrder},
	} {
		x, e := cable.ContradictionOf(l, b, c.readings)
		want(t, "ContradictionOf: "+c.name, x, e, []int(nil), c.err)
		n, e := cable.CheckContradiction(l, b, c.readings, nil)
		want(t, "CheckContradiction: "+c.name, n, e, 0, c.err)
	}
	_, e := cable.ContradictionOf(l, b, []api.CableReading{reading(0, -20000, 20000), reading(2, 20000, 20000)})
	want(t, "the limits", 0, e, 0, api.OK)
	twelve := make([]api.CableReading, 12)
	for i := range twelve {
		twelve[i] = reading(0, 6, 12)
	}
	_, e = cable.ContradictionOf(l, b, twelve)
	want(t, "twelve readings", 0, e, 0, api.ErrNone)
}

// agree is whether some currents, whole or not, have pulls that lie in all the readings of a set: the pulls that are left are followed from link to link.
func agree(l api.CableLine, b []api.Range, r []api.CableReading, set []int) bool {
	x := api.Range{Lo: l.Load.X, Hi: l.Load.X}
	for i, k := range l.Links {
		x.Lo += k.Drag * b[i].Lo
		x.Hi += k.Drag * b[i].Hi
		for _, j := range set {
			if r[j].Link == i {
				x.Lo, x.Hi = max(x.Lo, r[j].X.Lo), min(x.Hi, r[j].X.Hi)
			}
		}
		if x.Lo > x.Hi {
			return false
		}
	}
	return true
}

// contradictionByDefinition tries all readings, and all sets of two in lexicographical order.
func contradictionByDefinition(l api.CableLine, b []api.Range, r []api.CableReading) []int {
	for i := range r {
		if !agree(l, b, r, []int{i}) {
			return []int{i}
		}
	}
	for i := range r {
		for j := i + 1; j < len(r); j++ {
			if !agree(l, b, r, []int{i, j}) {
				return []int{i, j}
			}
		}
	}
	return nil
}

// randomReadings are near the pulls, so that some contradict each other.
func randomReadings(r *rand.Rand, pulls []api.Range) []api.CableReading {
	var readings []api.CableReading
	for range r.IntN(api.MaxCableReadings + 1) {
		i := r.IntN(len(pulls))
		x := randomRange(r, pulls[i].Lo, pulls[i].Hi)
		if r.IntN(10) == 0 {
			x.Lo, x.Hi = x.Hi+1, x.Hi+5
		}
		if lies(x.Lo, api.Range{Lo: -20000, Hi: 20000}) && lies(x.Hi, api.Range{Lo: -20000, Hi: 20000}) {
			readings = append(readings, api.CableReading{Link: i, X: x})
		}
	}
	return readings
}

func allOf(r []api.CableReading) []int {
	var all []int
	for i := range r {
		all = append(all, i)
	}
	return all
}

func TestContradictionByDefinition(t *testing.T) {
	r := newRandom()
	sizes := map[int]int{}
	for range 4000 {
		l := randomLine(r)
		b := randomBox(r, len(l.Links))
		pulls, _ := cable.PullsIn(l, b)
		readings := randomReadings(r, pulls)
		set := contradictionByDefinition(l, b, readings)
		sizes[len(set)]++
		x, e := cable.ContradictionOf(l, b, readings)
		if set == nil {
			want(t, "ContradictionOf", x, e, set, api.ErrNone)
			want(t, "all readings agree", agree(l, b, readings, allOf(readings)), e, true, api.ErrNone)
			continue
		}
		want(t, "ContradictionOf", x, e, set, api.OK)
		checkContradiction(t, l, b, readings, x)
	}
	if sizes[0] < 100 || sizes[1] < 100 || sizes[2] < 100 {
		t.Errorf("too few contradictions of a size: %v", sizes)
	}
}

// checkContradiction has a contradiction checked, by its distance, too: readings that are wider by less still contradict, wider by as much they do not.
func checkContradiction(t *testing.T, l api.CableLine, b []api.Range, r []api.CableReading, set []int) {
	t.Helper()
	n, e := cable.CheckContradiction(l, b, r, set)
	if e != api.OK || n <= 0 {
		t.Fatalf("CheckContradiction: %d, error %d", n, e)
	}
	wider := append([]api.CableReading(nil), r...)
	at := set[len(set)-1]
	wider[at].X = api.Range{Lo: r[at].X.Lo - n + 1, Hi: r[at].X.Hi + n - 1}
	want(t, "wider by less agree", agree(l, b, wider, set), api.OK, false, api.OK)
	wider[at].X = api.Range{Lo: r[at].X.Lo - n, Hi: r[at].X.Hi + n}
	want(t, "wider by as much agree", agree(l, b, wider, set), api.OK, true, api.OK)
	for i := range set {
		rest := append(append([]int(nil), set[:i]...), set[i+1:]...)
		want(t, "the others agree", agree(l, b, r, rest), api.OK, true, api.OK)
		if len(rest) == 1 {
			_, e := cable.CheckContradiction(l, b, r, rest)
			want(t, "CheckContradiction without one", 0, e, 0, api.ErrProof)
		}
	}
}

func TestReadingsOfTensionsAgree(t *testing.T) {
	r := newRandom()
	for range 1000 {
		l := randomLine(r)
		b := randomBox(r, len(l.Links))
		f, _ := cable.TensionsOf(l, currentsIn(r, b))
		var readings []api.CableReading
		for range r.IntN(api.MaxCableReadings + 1) {
			i := r.IntN(len(f))
			lo, hi := f[i].X-r.IntN(3), f[i].X+r.IntN(3)
			readings = append(readings, reading(i, max(lo, -api.MaxCablePull), min(hi, api.MaxCablePull)))
		}
		x, e := cable.ContradictionOf(l, b, readings)
		want(t, "ContradictionOf", x, e, []int(nil), api.ErrNone)
		for i := range readings {
			for j := range i {
				_, e := cable.CheckContradiction(l, b, readings, []int{j, i})
				want(t, "CheckContradiction", 0, e, 0, api.ErrProof)
			}
		}
	}
}
