package bus_test

import (
	"fmt"
	"math"
	"slices"
	"testing"

	"moonpool/api"
	"moonpool/bus"
)

// P7.6, P7.13

func TestAfterFaults(t *testing.T) {
	n := exampleNet()
	for _, c := range []struct {
		failed, working []int
		mode            int
		err             api.Errno
	}{
		{none, []int{0, 1, 2}, 0, api.OK},
		{[]int{3}, []int{0, 1}, 1, api.OK},
		{[]int{0}, []int{0, 1, 2}, 0, api.OK},
		{[]int{2}, []int{0, 2}, 2, api.OK},
		{[]int{0, 3}, []int{0, 1}, 1, api.OK},
		{[]int{0, 2, 3}, []int{0}, 2, api.OK},
		{[]int{0, 1}, []int{2}, 0, api.ErrNone},
		{[]int{0, 1, 2, 3}, none, 0, api.ErrNone},
	} {
		l, e := bus.WorksAfter(n, c.failed)
		want(t, fmt.Sprint("WorksAfter ", c.failed), l, e, c.working, api.OK)
		m, e := bus.ModeAfter(n, c.failed)
		want(t, fmt.Sprint("ModeAfter ", c.failed), m, e, c.mode, c.err)
	}
}

func TestBadFaults(t *testing.T) {
	for _, c := range []struct {
		failed []int
		err    api.Errno
	}{
		{[]int{4}, api.ErrMissing},
		{[]int{-1}, api.ErrMissing},
		{[]int{0, math.MaxInt}, api.ErrMissing},
		{[]int{math.MinInt}, api.ErrMissing},
		{[]int{0, 0}, api.ErrOrder},
		{[]int{0, 2, 1}, api.ErrOrder},
		{[]int{2, -1}, api.ErrMissing},
		{[]int{2, 1, 4}, api.ErrOrder},
		{upTo(0, 60), api.ErrMissing},
	} {
		l, e := bus.WorksAfter(exampleNet(), c.failed)
		want(t, fmt.Sprint("WorksAfter ", c.failed), l, e, none, c.err)
		m, e := bus.ModeAfter(exampleNet(), c.failed)
		want(t, fmt.Sprint("ModeAfter ", c.failed), m, e, 0, c.err)
	}
}

func TestCutsAndMargins(t *testing.T) {
	for i, wanted := range [][]int{{0, 1}, {2}, {3}} {
		l, e := bus.CutOf(exampleNet(), i)
		want(t, fmt.Sprint("CutOf ", i), l, e, wanted, api.OK)
	}
	for i, wanted := range []int{1, 1, 2} {
		m, e := bus.MarginOf(exampleNet(), i)
		want(t, fmt.Sprint("MarginOf ", i), m, e, wanted, api.OK)
	}
	for _, i := range []int{-1, 3, math.MaxInt, math.MinInt} {
		l, e := bus.CutOf(exampleNet(), i)
		want(t, fmt.Sprint("CutOf ", i), l, e, none, api.ErrMissing)
		m, e := bus.MarginOf(exampleNet(), i)
		want(t, fmt.Sprint("MarginOf ", i), m, e, 0, api.ErrMissing)
	}
	for _, c := range []struct {
		ways [][]int
		cut  []int
	}{
		{[][]int{{3}}, []int{3}},
		{[][]int{{0, 1, 2, 3}}, []int{0}},
		{[][]int{{2, 3}, {2, 3}}, []int{2}},
		{[][]int{{0}, {1}, {2}, {3}}, []int{0, 1, 2, 3}},
		{[][]int{{0, 1}, {2, 3}}, []int{0, 2}},
		{[][]int{{0, 1}, {1, 2}, {2, 3}}, []int{0, 2}},
		{[][]int{{0, 3}, {1, 3}, {2, 3}}, []int{3}},
		{[][]int{{0, 1}, {0, 2}, {1, 2}}, []int{0, 1}},
		{[][]int{{2, 3}, {1, 3}, {0, 1}}, []int{0, 3}},
	} {
		n := exampleNet()
		n.Functions = []api.BusFunction{functionOf("x", c.ways...)}
		n.Modes = []api.BusMode{modeOf("x", 0)}
		l, e := bus.CutOf(n, 0)
		want(t, fmt.Sprint("CutOf ", c.ways), l, e, c.cut, api.OK)
		m, e := bus.MarginOf(n, 0)
		want(t, fmt.Sprint("MarginOf ", c.ways), m, e, len(c.cut), api.OK)
	}
}

func TestWithoutFunctionsOrModes(t *testing.T) {
	n := api.BusNet{Parts: []string{"a", "b"}, Modes: []api.BusMode{modeOf("x"), modeOf("y")}}
	for _, failed := range sets(2) {
		m, e := bus.ModeAfter(n, failed)
		want(t, fmt.Sprint("ModeAfter ", failed), m, e, 0, api.OK)
		l, e := bus.WorksAfter(n, failed)
		want(t, fmt.Sprint("WorksAfter ", failed), l, e, none, api.OK)
	}
	for i := range n.Modes {
		m, e := bus.MarginOf(n, i)
		want(t, fmt.Sprint("MarginOf ", i), m, e, 0, api.ErrNone)
	}
	m, e := bus.MarginOf(n, 2)
	want(t, "MarginOf 2", m, e, 0, api.ErrMissing)
	l, e := bus.CutOf(n, 0)
	want(t, "CutOf 0", l, e, none, api.ErrMissing)
	n = exampleNet()
	n.Modes = nil
	m, e = bus.ModeAfter(n, nil)
	want(t, "ModeAfter without modes", m, e, 0, api.ErrNone)
	m, e = bus.MarginOf(n, 0)
	want(t, "MarginOf without modes", m, e, 0, api.ErrMissing)
	n.Modes = []api.BusMode{modeOf("full", 0, 1, 2), modeOf("rest")}
	m, e = bus.ModeAfter(n, upTo(0, 3))
	want(t, "ModeAfter, with one that needs nothing", m, e, 1, api.OK)
}

// worksAfter are the functions that still work after faults.
func worksAfter(n api.BusNet, failed []int) []int {
	var l []int
	for i, f := range n.Functions {
		works := false
		for _, way := range f.Ways {
			left := 0
			for _, part := range way {
				if !slices.Contains(failed, part) {
					left++
				}
			}
			works = works || left == len(way)
		}
		if works {
			l = append(l, i)
		}
	}
	return l
}

// has is whether one set has all of another one.
func has(set, all []int) bool {
	return !slices.ContainsFunc(all, func(n int) bool { return !slices.Contains(set, n) })
}

func TestFaultsByTheirDefinition(t *testing.T) {
	r := newRandom()
	for range 300 {
		n := randomNet(r, 7)
		all := sets(len(n.Parts))
		for _, failed := range all {
			working := worksAfter(n, failed)
			l, e := bus.WorksAfter(n, failed)
			want(t, fmt.Sprint("WorksAfter ", n, failed), l, e, working, api.OK)
			mode, err := slices.IndexFunc(n.Modes, func(m api.BusMode) bool { return has(working, m.Needs) }), api.OK
			if mode < 0 {
				mode, err = 0, api.ErrNone
			}
			m, e := bus.ModeAfter(n, failed)
			want(t, fmt.Sprint("ModeAfter ", n, failed), m, e, mode, err)
		}
		for i := range n.Functions {
			k := slices.IndexFunc(all, func(failed []int) bool { return !slices.Contains(worksAfter(n, failed), i) })
			l, e := bus.CutOf(n, i)
			want(t, fmt.Sprint("CutOf ", n, i), l, e, all[k], api.OK)
		}
		for i, mode := range n.Modes {
			k := slices.IndexFunc(all, func(failed []int) bool { return !has(worksAfter(n, failed), mode.Needs) })
			m, e := bus.MarginOf(n, i)
			if k < 0 {
				want(t, fmt.Sprint("MarginOf ", n, i), m, e, 0, api.ErrNone)
				continue
			}
			want(t, fmt.Sprint("MarginOf ", n, i), m, e, len(all[k]), api.OK)
		}
	}
}

func TestFurtherFaults(t *testing.T) {
	r := newRandom()
	for range 1000 {
		n := randomNet(r, 10)
		failed := randomSet(r, len(n.Parts), 1)
		k := r.IntN(len(failed))
		fewer := slices.Delete(slices.Clone(failed), k, k+1)
		l, _ := bus.WorksAfter(n, failed)
		before, _ := bus.WorksAfter(n, fewer)
		if !has(before, l) {
			t.Errorf("%v: after %v work %v, but after %v %v", n, failed, l, fewer, before)
		}
		m, e := bus.ModeAfter(n, failed)
		better, err := bus.ModeAfter(n, fewer)
		if e == api.OK && (err != api.OK || better > m) {
			t.Errorf("%v: after %v the mode is %d, but after %v %d, error %d", n, failed, m, fewer, better, err)
		}
	}
}

func TestFewerFaultsThanCutsAndMargins(t *testing.T) {
	r := newRandom()
	for range 200 {
		n := randomNet(r, 8)
		for i := range n.Functions {
			cut, _ := bus.CutOf(n, i)
			if l, _ := bus.WorksAfter(n, cut); slices.Contains(l, i) {
				t.Errorf("%v: %d works after its cut %v", n, i, cut)
			}
			for _, failed := range sets(len(n.Parts)) {
				if l, _ := bus.WorksAfter(n, failed); len(failed) < len(cut) && !slices.Contains(l, i) {
					t.Errorf("%v: %d, whose cut is %v, does not work after %v", n, i, cut, failed)
				}
			}
		}
		for i, mode := range n.Modes {
			margin, _ := bus.MarginOf(n, i)
			for _, failed := range sets(len(n.Parts)) {
				if l, _ := bus.WorksAfter(n, failed); len(failed) < margin && !has(l, mode.Needs) {
					t.Errorf("%v: the mode %d has the margin %d, but after %v work %v", n, i, margin, failed, l)
				}
			}
		}
	}
}
