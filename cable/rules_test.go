package cable_test

import (
	"reflect"
	"slices"
	"testing"

	"moonpool/api"
	"moonpool/cable"
)

// R3, R4

// arguments of every function, whose lists none of them may change.
type arguments struct {
	line                api.CableLine
	currents, strengths []int
	tensions            []api.CableForce
	box                 []api.Range
	readings            []api.CableReading
	set                 []int
	path, posts         [][2]int
}

func exampleArguments() arguments {
	return arguments{
		line:      exampleLine(),
		currents:  exampleCurrents(),
		strengths: []int{121, 100, 101},
		tensions:  []api.CableForce{{X: 12, Z: 120}, {X: 2, Z: 100}, {X: 2, Z: 100}},
		box:       exampleBox(),
		readings:  []api.CableReading{reading(1, 10, 11), reading(0, 6, 6)},
		set:       []int{0, 1},
		path:      square4(),
		posts:     [][2]int{{9, 9}, {1, 2}},
	}
}

// results are those of all functions.
func results(a arguments) []any {
	var all []any
	add := func(list ...any) { all = append(all, list...) }
	two := func(x any, e api.Errno) { add(x, e) }
	i, e := cable.CheckLine(a.line)
	add(i, e)
	i, e = cable.CheckBox(a.line, a.box)
	add(i, e)
	f, e := cable.TensionsOf(a.line, a.currents)
	two(f, e)
	i, e = cable.CheckBalance(a.line, a.currents, a.tensions)
	add(i, e)
	x, e := cable.SlackIn(a.line)
	two(x, e)
	i, e = cable.LeastLoad(a.line)
	add(i, e)
	o, e := cable.OffsetsOf(a.line, a.currents)
	two(o, e)
	r, e := cable.LaybackOf(a.line, a.currents)
	two(r, e)
	r, e = cable.LengthOf(a.line, a.currents)
	two(r, e)
	i, n, e := cable.StrongestIn(a.line, a.currents)
	add(i, n, e)
	x, e = cable.BrokenIn(a.line, a.currents, a.strengths)
	two(x, e)
	o, e = cable.BendsOf(a.line, a.currents)
	two(o, e)
	i, g, e := cable.SharpestIn(a.line, a.currents)
	add(i, g, e)
	p, e := cable.PullsIn(a.line, a.box)
	two(p, e)
	p, e = cable.SquaresIn(a.line, a.box)
	two(p, e)
	r, e = cable.LaybackIn(a.line, a.box)
	two(r, e)
	i, e = cable.EnoughFor(a.line, a.box)
	add(i, e)
	x, e = cable.ContradictionOf(a.line, a.box, a.readings)
	two(x, e)
	i, e = cable.CheckContradiction(a.line, a.box, a.readings, a.set)
	add(i, e)
	i, e = cable.WindingOf(a.path, a.posts[1])
	add(i, e)
	x, e = cable.WoundAround(a.path, a.posts)
	two(x, e)
	add(cable.FormatLine(a.line), cable.FormatBox(a.box))
	return all
}

// clobber overwrites all numbers of the lists of arguments.
func clobber(a arguments) {
	clear(a.line.Links)
	clear(a.currents)
	clear(a.strengths)
	clear(a.tensions)
	clear(a.box)
	clear(a.readings)
	clear(a.set)
	clear(a.path)
	clear(a.posts)
}

func TestArgumentsAreKept(t *testing.T) {
	a := exampleArguments()
	first := results(a)
	if !reflect.DeepEqual(a, exampleArguments()) {
		t.Errorf("arguments were modified: %v", a)
	}
	again := results(a)
	if !reflect.DeepEqual(first, again) {
		t.Errorf("the same arguments have other results: %v, %v", first, again)
	}
	clobber(a)
	if !reflect.DeepEqual(first, again) {
		t.Errorf("results share memory with arguments")
	}
	for i, x := range first {
		if e, ok := x.(api.Errno); ok && e != api.OK {
			t.Errorf("result %d is the error %d", i, e)
		}
	}
}

func TestResultsShareNoMemory(t *testing.T) {
	b, _ := cable.ParseBox("2 4 -2 0 0 9")
	c, _ := cable.ParseBox("2 4 -2 0 0 9")
	clear(b)
	if !slices.Equal(c, exampleBox()) {
		t.Errorf("results share memory: %v", c)
	}
	p, _ := cable.PullsIn(exampleLine(), exampleBox())
	q, _ := cable.PullsIn(exampleLine(), exampleBox())
	clear(p)
	if q[0] != (api.Range{Lo: 6, Hi: 12}) {
		t.Errorf("results share memory: %v", q)
	}
}
