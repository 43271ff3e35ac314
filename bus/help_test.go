package bus_test

import (
	"fmt"
	"math/rand/v2"
	"slices"
	"strings"
	"testing"

	"moonpool/api"
	"moonpool/bus"
)

// want compares a result and an error. Results are compared as they are printed: a nil slice and an empty one are the same result.
func want(t *testing.T, what string, got any, e api.Errno, wanted any, err api.Errno) {
	t.Helper()
	if fmt.Sprint(got) != fmt.Sprint(wanted) || e != err {
		t.Errorf("%s: %v, error %d, want %v, error %d", what, got, e, wanted, err)
	}
}

// none is a list without numbers.
var none []int

func spanOf(lo, hi int) api.Range { return api.Range{Lo: lo, Hi: hi} }

func messageOf(source, number, kind int, data ...int) api.BusMessage {
	m := api.BusMessage{Source: source, Number: number, Kind: kind}
	copy(m.Data[:], data)
	return m
}

func streamOf(name string, period, deadline, length int) api.BusStream {
	return api.BusStream{Name: name, Period: period, Deadline: deadline, Length: length}
}

func functionOf(name string, ways ...[]int) api.BusFunction {
	return api.BusFunction{Name: name, Ways: ways}
}

func modeOf(name string, needs ...int) api.BusMode { return api.BusMode{Name: name, Needs: needs} }

// exampleStreams are the streams l of the chapter's examples.
func exampleStreams() []api.BusStream {
	return []api.BusStream{streamOf("a", 4, 4, 1), streamOf("b", 6, 6, 2), streamOf("c", 12, 12, 3)}
}

// lateStreams are those of example 5, of which the last one is late.
func lateStreams() []api.BusStream {
	return []api.BusStream{streamOf("a", 4, 4, 1), streamOf("b", 6, 6, 2), streamOf("c", 12, 6, 3)}
}

// overloadedStreams are those of example 5 with the greater Length.
func overloadedStreams() []api.BusStream {
	l := lateStreams()
	l[2].Length = 4
	return l
}

// fullStreams load a bus wholly by the first one, so that the other one has no response.
func fullStreams() []api.BusStream {
	return []api.BusStream{streamOf("a", 1, 1, 1), streamOf("b", 60, 60, 1)}
}

// wideStreams have the smallest common multiple 60 times 59 times 57 of their periods, which is too great, and no overload.
func wideStreams() []api.BusStream {
	return []api.BusStream{streamOf("a", 60, 60, 1), streamOf("b", 59, 59, 1), streamOf("c", 57, 57, 1)}
}

// finestStreams have a load whose denominator is too great.
func finestStreams() []api.BusStream {
	return []api.BusStream{
		streamOf("a", 59, 59, 1), streamOf("b", 53, 53, 1), streamOf("c", 47, 47, 1),
		streamOf("d", 43, 43, 1), streamOf("e", 41, 41, 1), streamOf("f", 37, 37, 1),
	}
}

// exampleNet is the net n of the chapter's examples.
func exampleNet() api.BusNet {
	return api.BusNet{
		Parts: []string{"main", "spare", "gyro", "dvl"},
		Functions: []api.BusFunction{
			functionOf("power", []int{0}, []int{1}),
			functionOf("heading", []int{0, 2}, []int{1, 2}),
			functionOf("speed", []int{3}),
		},
		Modes: []api.BusMode{modeOf("full", 0, 1, 2), modeOf("slow", 0, 1), modeOf("drift", 0)},
	}
}

func encoded(t *testing.T, m api.BusMessage) [api.BusBytes]int {
	t.Helper()
	f, e := bus.Encoded(m)
	if e != api.OK {
		t.Fatalf("Encoded of %v: error %d", m, e)
	}
	return f
}

// numbered are frames of one source with these numbers.
func numbered(t *testing.T, source int, numbers ...int) [][api.BusBytes]int {
	t.Helper()
	var l [][api.BusBytes]int
	for _, n := range numbers {
		l = append(l, encoded(t, messageOf(source, n, n%4, n, 0, 1, 2)))
	}
	return l
}

func newRandom() *rand.Rand { return rand.New(rand.NewPCG(7, 7)) }

// between is a random number from low to high.
func between(r *rand.Rand, low, high int) int { return low + r.IntN(high-low+1) }

func randomMessage(r *rand.Rand) api.BusMessage {
	return messageOf(r.IntN(16), r.IntN(256), r.IntN(4), r.IntN(256), r.IntN(256), r.IntN(256), r.IntN(256))
}

// randomNames are so many names, no two of which are the same.
func randomNames(r *rand.Rand, count int) []string {
	names := strings.Fields("a b C d-1 main Spare gyro-2-3-456 x9 Z-- k")
	r.Shuffle(len(names), func(i, k int) { names[i], names[k] = names[k], names[i] })
	return names[:count]
}

// randomStreams are at most most valid streams, of which some are often late.
func randomStreams(r *rand.Rand, most int) []api.BusStream {
	names := randomNames(r, between(r, 1, most))
	l := make([]api.BusStream, len(names))
	for i := range l {
		period := between(r, 1, 20)
		switch r.IntN(3) {
		case 0:
			period = []int{4, 6, 8, 12, 24}[r.IntN(5)]
		case 1:
			period = between(r, 10, 60)
		}
		deadline := period
		if r.IntN(2) == 0 {
			deadline = between(r, 1, period)
		}
		l[i] = streamOf(names[i], period, deadline, between(r, 1, min(20, max(1, period/3))))
		if r.IntN(20) == 0 {
			l[i].Length = between(r, 1, 20)
		}
	}
	return l
}

func randomStarts(r *rand.Rand, l []api.BusStream) []int {
	most := []int{0, 5, 60, 400}[r.IntN(4)]
	starts := make([]int, len(l))
	for i := range starts {
		starts[i] = r.IntN(most + 1)
	}
	return starts
}

// randomSet is a random set of numbers below count, with at least least of them.
func randomSet(r *rand.Rand, count, least int) []int {
	set := r.Perm(count)[:between(r, least, count)]
	if len(set) > least && r.IntN(2) == 0 {
		set = set[:between(r, least, min(len(set), least+2))]
	}
	slices.Sort(set)
	return set
}

// randomNet is a valid net of at most most parts.
func randomNet(r *rand.Rand, most int) api.BusNet {
	n := api.BusNet{Parts: randomNames(r, between(r, 1, most))}
	for _, name := range randomNames(r, r.IntN(5)) {
		f := functionOf(name)
		for range between(r, 1, 6) {
			f.Ways = append(f.Ways, randomSet(r, len(n.Parts), 1))
		}
		n.Functions = append(n.Functions, f)
	}
	for _, name := range randomNames(r, r.IntN(5)) {
		n.Modes = append(n.Modes, modeOf(name, randomSet(r, len(n.Functions), 0)...))
	}
	return n
}

// sets are all sets of the numbers below count, the smaller ones first, those of one size in lexicographic order.
func sets(count int) [][]int {
	var all [][]int
	for bits := range 1 << count {
		var set []int
		for n := range count {
			if bits>>n&1 == 1 {
				set = append(set, n)
			}
		}
		all = append(all, set)
	}
	slices.SortFunc(all, func(a, b []int) int {
		if len(a) != len(b) {
			return len(a) - len(b)
		}
		return slices.Compare(a, b)
	})
	return all
}

func TestExamplesAreValid(t *testing.T) {
	for _, l := range [][]api.BusStream{exampleStreams(), lateStreams(), overloadedStreams(), fullStreams(), wideStreams(), finestStreams()} {
		i, e := bus.CheckStreams(l)
		want(t, fmt.Sprint("CheckStreams of ", l), i, e, 0, api.OK)
	}
	i, e := bus.CheckNet(exampleNet())
	want(t, "CheckNet of the example", i, e, 0, api.OK)
	r := newRandom()
	for range 1000 {
		l, n := randomStreams(r, 6), randomNet(r, 10)
		i, e := bus.CheckStreams(l)
		want(t, fmt.Sprint("CheckStreams of ", l), i, e, 0, api.OK)
		i, e = bus.CheckNet(n)
		want(t, fmt.Sprint("CheckNet of ", n), i, e, 0, api.OK)
		want(t, "CheckMessage", nil, bus.CheckMessage(randomMessage(r)), nil, api.OK)
	}
}
