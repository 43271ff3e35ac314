package bus_test

import (
	"fmt"
	"math"
	"math/big"
	"slices"
	"testing"

	"moonpool/api"
	"moonpool/bus"
)

// P7.3, P7.11

// badStreams are streams that CheckStreams refuses, with the index and the error.
type badStreams struct {
	name    string
	streams []api.BusStream
	index   int
	err     api.Errno
}

func allBadStreams() []badStreams {
	with := func(i int, s api.BusStream) []api.BusStream {
		l := exampleStreams()
		l[i] = s
		return l
	}
	seven := append(finestStreams(), streamOf("g", 1, 1, 1))
	return []badStreams{
		{"none", nil, 0, api.ErrShape},
		{"7", seven, 0, api.ErrLarge},
		{"7 before items", make([]api.BusStream, 7), 0, api.ErrLarge},
		{"no name", with(1, streamOf("", 6, 6, 2)), 1, api.ErrName},
		{"a long name", with(2, streamOf("abcdefghijklm", 6, 6, 2)), 2, api.ErrName},
		{"a name with a blank", with(0, streamOf("a b", 6, 6, 2)), 0, api.ErrName},
		{"a name twice", with(2, streamOf("a", 6, 6, 2)), 2, api.ErrExists},
		{"the name before the numbers", with(1, streamOf("1", 0, 0, 0)), 1, api.ErrName},
		{"a name twice before the numbers", with(1, streamOf("a", 0, 0, 0)), 1, api.ErrExists},
		{"period 0", with(0, streamOf("a", 0, 0, 1)), 0, api.ErrRange},
		{"period 0, deadline 1", with(0, streamOf("a", 0, 1, 1)), 0, api.ErrRange},
		{"period 61", with(1, streamOf("b", 61, 60, 2)), 1, api.ErrRange},
		{"period -1", with(1, streamOf("b", -1, -1, 2)), 1, api.ErrRange},
		{"the greatest period", with(1, streamOf("b", math.MaxInt, 6, 2)), 1, api.ErrRange},
		{"the least period", with(1, streamOf("b", math.MinInt, 6, 2)), 1, api.ErrRange},
		{"deadline 0", with(2, streamOf("c", 12, 0, 3)), 2, api.ErrRange},
		{"a deadline above the period", with(2, streamOf("c", 12, 13, 3)), 2, api.ErrRange},
		{"the least deadline", with(2, streamOf("c", 12, math.MinInt, 3)), 2, api.ErrRange},
		{"length 0", with(1, streamOf("b", 6, 6, 0)), 1, api.ErrRange},
		{"length 21", with(1, streamOf("b", 60, 60, 21)), 1, api.ErrRange},
		{"the least length", with(1, streamOf("b", 60, 60, math.MinInt)), 1, api.ErrRange},
		{"items in their order", []api.BusStream{streamOf("a", 4, 4, 1), streamOf("b", 6, 7, 1), streamOf("a", 4, 4, 1), streamOf("", 4, 4, 1)}, 1, api.ErrRange},
		{"a name twice before no name", []api.BusStream{streamOf("a", 4, 4, 1), streamOf("a", 4, 4, 1), streamOf("", 4, 4, 1)}, 1, api.ErrExists},
	}
}

func TestCheckStreams(t *testing.T) {
	for _, l := range [][]api.BusStream{
		exampleStreams(),
		finestStreams(),
		{streamOf("A0123456789-", 60, 60, 20)},
		{streamOf("a", 1, 1, 1)},
		{streamOf("a", 1, 1, 20), streamOf("A", 60, 1, 20)},
	} {
		i, e := bus.CheckStreams(l)
		want(t, fmt.Sprint("CheckStreams of ", l), i, e, 0, api.OK)
	}
	for _, c := range allBadStreams() {
		i, e := bus.CheckStreams(c.streams)
		want(t, "CheckStreams: "+c.name, i, e, c.index, c.err)
	}
}

// TestBadStreams calls all functions of streams.
func TestBadStreams(t *testing.T) {
	for _, c := range allBadStreams() {
		a := exampleArguments()
		a.streams = c.streams
		for _, x := range resultsOf(a) {
			if x.takes("streams") && x.name != "CheckStreams" {
				x.wantError(t, c.name, c.err)
			}
		}
	}
}

func TestLoadOf(t *testing.T) {
	for _, c := range []struct {
		streams []api.BusStream
		num     int
		den     int
	}{
		{exampleStreams(), 5, 6},
		{lateStreams(), 5, 6},
		{overloadedStreams(), 11, 12},
		{fullStreams(), 61, 60},
		{[]api.BusStream{streamOf("a", 1, 1, 20)}, 20, 1},
		{[]api.BusStream{streamOf("a", 60, 1, 1)}, 1, 60},
		{[]api.BusStream{streamOf("a", 2, 2, 1), streamOf("b", 4, 4, 1), streamOf("c", 4, 1, 1)}, 1, 1},
		{finestStreams()[:5], 59*53*47*43 + 41*(59*53*47+43*(59*53+47*(59+53))), 59 * 53 * 47 * 43 * 41},
	} {
		f, e := bus.LoadOf(c.streams)
		want(t, fmt.Sprint("LoadOf ", c.streams), f, e, api.Frac{Num: c.num, Den: c.den}, api.OK)
	}
	f, e := bus.LoadOf(finestStreams())
	want(t, "LoadOf the finest streams", f, e, api.Frac{}, api.ErrLarge)
	f, e = bus.LoadOf(streamsOf([]int{3, 7, 37, 43, 53, 59}, []int{19, 17, 10, 12, 12, 2}))
	want(t, "LoadOf streams with the greatest numerator", f, e, api.Frac{Num: 1000000000, Den: 104476197}, api.OK)
	f, e = bus.LoadOf(streamsOf([]int{23, 24, 25, 29, 31, 41}, []int{7, 13, 7, 14, 2, 12}))
	want(t, "LoadOf streams with the numerator 1000000001", f, e, api.Frac{}, api.ErrLarge)
}

// streamsOf are streams with these periods, which are their deadlines, too, and lengths.
func streamsOf(periods, lengths []int) []api.BusStream {
	l := make([]api.BusStream, len(periods))
	for i, p := range periods {
		l[i] = streamOf(string(rune('a'+i)), p, p, lengths[i])
	}
	return l
}

// load is that of streams. It is false if a part is greater than MaxPart.
func load(l []api.BusStream) (*big.Rat, bool) {
	sum := new(big.Rat)
	for _, s := range l {
		sum.Add(sum, big.NewRat(int64(s.Length), int64(s.Period)))
	}
	most := big.NewInt(1000000000)
	return sum, sum.Num().Cmp(most) <= 0 && sum.Denom().Cmp(most) <= 0
}

// TestLoadsByRationals has periods that are mostly great primes: a numerator alone may be too great, too.
func TestLoadsByRationals(t *testing.T) {
	r := newRandom()
	count := map[string]int{}
	for range 5000 {
		l := randomStreams(r, 6)
		if r.IntN(3) > 0 {
			l = finestStreams()
			for i := range l {
				l[i].Length = between(r, 1, 20)
				if r.IntN(6) == 0 {
					l[i].Period = between(r, 20, 60)
					l[i].Deadline = 20
				}
			}
		}
		sum, ok := load(l)
		f, e := bus.LoadOf(l)
		if !ok {
			want(t, fmt.Sprint("LoadOf ", l), f, e, api.Frac{}, api.ErrLarge)
			count["large"]++
			if sum.Denom().Cmp(big.NewInt(1000000000)) <= 0 {
				count["numerator"]++
			}
			continue
		}
		want(t, fmt.Sprint("LoadOf ", l), f, e, api.Frac{Num: int(sum.Num().Int64()), Den: int(sum.Denom().Int64())}, api.OK)
		count["fine"]++
	}
	if count["large"] < 100 || count["numerator"] < 10 || count["fine"] < 100 {
		t.Errorf("too few loads of one kind: %v", count)
	}
}

// farStreams are those of which the last one has a response of 10000 with the length 15, and a greater one with the length 16.
func farStreams(length int) []api.BusStream {
	return []api.BusStream{streamOf("a", 23, 23, 1), streamOf("b", 50, 50, 4), streamOf("c", 8, 8, 7), streamOf("d", 60, 60, length)}
}

func TestResponseOf(t *testing.T) {
	slow := []api.BusStream{streamOf("a", 40, 40, 20), streamOf("b", 60, 60, 20), streamOf("c", 59, 59, 9), streamOf("d", 60, 60, 20)}
	for _, c := range []struct {
		streams   []api.BusStream
		responses []int // 0 if there is none
	}{
		{exampleStreams(), []int{1, 3, 10}},
		{lateStreams(), []int{1, 3, 10}},
		{overloadedStreams(), []int{1, 3, 11}},
		{[]api.BusStream{streamOf("x", 12, 12, 3), streamOf("y", 4, 3, 1)}, []int{3, 4}},
		{[]api.BusStream{streamOf("a", 60, 1, 20)}, []int{20}},
		{[]api.BusStream{streamOf("a", 1, 1, 20), streamOf("b", 1, 1, 20)}, []int{20, 0}},
		{[]api.BusStream{streamOf("a", 2, 2, 1), streamOf("b", 2, 2, 1), streamOf("c", 60, 60, 1)}, []int{1, 2, 0}},
		{fullStreams(), []int{1, 0}},
		{slow, []int{20, 40, 109, 1799}},
		{farStreams(14), []int{1, 5, 12, 9200}},
		{farStreams(15), []int{1, 5, 12, 10000}},
		{farStreams(16), []int{1, 5, 12, 0}},
	} {
		for i, wanted := range c.responses {
			err := api.OK
			if wanted == 0 {
				err = api.ErrNone
			}
			n, e := bus.ResponseOf(c.streams, i)
			want(t, fmt.Sprint("ResponseOf ", c.streams, i), n, e, wanted, err)
		}
	}
	for _, i := range []int{-1, 3, math.MaxInt, math.MinInt} {
		n, e := bus.ResponseOf(exampleStreams(), i)
		want(t, fmt.Sprint("ResponseOf stream ", i), n, e, 0, api.ErrMissing)
	}
}

func TestLateIn(t *testing.T) {
	for _, c := range []struct {
		name    string
		streams []api.BusStream
		late    []int
	}{
		{"example", exampleStreams(), none},
		{"example 5", lateStreams(), []int{2}},
		{"example 6", []api.BusStream{streamOf("x", 12, 12, 3), streamOf("y", 4, 3, 1)}, []int{1}},
		{"example 6, in the other order", []api.BusStream{streamOf("y", 4, 3, 1), streamOf("x", 12, 12, 3)}, none},
		{"a length of the deadline", []api.BusStream{streamOf("a", 60, 20, 20)}, none},
		{"a length greater than the deadline", []api.BusStream{streamOf("a", 60, 19, 20)}, []int{0}},
		{"without a response", fullStreams(), []int{1}},
		{"a response that is too great", farStreams(16), []int{2, 3}},
		{"all", []api.BusStream{streamOf("a", 1, 1, 20), streamOf("b", 1, 1, 20)}, []int{0, 1}},
		{"one that is late before one that is not", []api.BusStream{streamOf("a", 60, 1, 2), streamOf("b", 60, 3, 1)}, []int{0}},
	} {
		l, e := bus.LateIn(c.streams)
		want(t, "LateIn: "+c.name, l, e, c.late, api.OK)
	}
}

func TestOrderFor(t *testing.T) {
	for _, c := range []struct {
		name    string
		streams []api.BusStream
		order   []int
		err     api.Errno
	}{
		{"example", exampleStreams(), []int{0, 1, 2}, api.OK},
		{"example 5", lateStreams(), none, api.ErrNone},
		{"example 6", []api.BusStream{streamOf("x", 12, 12, 3), streamOf("y", 4, 3, 1)}, []int{1, 0}, api.OK},
		{"one", []api.BusStream{streamOf("a", 20, 20, 20)}, []int{0}, api.OK},
		{"one that is late", []api.BusStream{streamOf("a", 60, 19, 20)}, none, api.ErrNone},
		{"a load above 1", fullStreams(), none, api.ErrNone},
		{"the last one first", []api.BusStream{streamOf("a", 60, 3, 1), streamOf("b", 60, 2, 1), streamOf("c", 60, 1, 1)}, []int{2, 1, 0}, api.OK},
		{"the first one must wait for the last one alone", []api.BusStream{streamOf("a", 60, 2, 1), streamOf("b", 60, 60, 1), streamOf("c", 60, 1, 1)}, []int{2, 0, 1}, api.OK},
		{"the first one that has others behind it", []api.BusStream{streamOf("a", 60, 9, 5), streamOf("b", 60, 60, 9), streamOf("c", 60, 5, 4)}, []int{2, 0, 1}, api.OK},
	} {
		l, e := bus.OrderFor(c.streams)
		want(t, "OrderFor: "+c.name, l, e, c.order, c.err)
	}
}

// responseOf is the response of a stream, found by trying all numbers. It is 0 if there is none up to most.
func responseOf(l []api.BusStream, stream, most int) int {
	for n := 1; n <= most; n++ {
		sum := l[stream].Length
		for _, s := range l[:stream] {
			for sent := 0; sent < n; sent += s.Period {
				sum += s.Length
			}
		}
		if sum == n {
			return n
		}
	}
	return 0
}

// lateOf are the late streams.
func lateOf(l []api.BusStream) []int {
	var late []int
	for i, s := range l {
		if n := responseOf(l, i, s.Deadline); n == 0 {
			late = append(late, i)
		}
	}
	return late
}

func TestResponsesByTrying(t *testing.T) {
	r := newRandom()
	for range 1500 {
		l := randomStreams(r, 6)
		for i := range l {
			wanted, err := responseOf(l, i, 2000), api.OK
			n, e := bus.ResponseOf(l, i)
			if wanted == 0 {
				if n == 0 {
					err = api.ErrNone
				} else if wanted = n; n <= 2000 {
					t.Errorf("ResponseOf %v, %d: %d, want none up to 2000", l, i, n)
				}
			}
			want(t, fmt.Sprint("ResponseOf ", l, i), n, e, wanted, err)
		}
		late, e := bus.LateIn(l)
		want(t, fmt.Sprint("LateIn ", l), late, e, lateOf(l), api.OK)
	}
}

// orders are all orders of the numbers below count, in lexicographic order.
func orders(count int) [][]int {
	if count == 0 {
		return [][]int{nil}
	}
	var all [][]int
	for first := range count {
		for _, order := range orders(count - 1) {
			l := []int{first}
			for _, n := range order {
				if n >= first {
					n++
				}
				l = append(l, n)
			}
			all = append(all, l)
		}
	}
	return all
}

// inOrder are streams in an order.
func inOrder(l []api.BusStream, order []int) []api.BusStream {
	var ordered []api.BusStream
	for _, i := range order {
		ordered = append(ordered, l[i])
	}
	return ordered
}

func TestFirstOrderOfAll(t *testing.T) {
	r := newRandom()
	count := map[string]int{}
	for range 1500 {
		l := randomStreams(r, 6)
		if r.IntN(2) == 0 {
			for i := range l {
				l[i].Length = 1 + l[i].Length/3
			}
		}
		all := orders(len(l))
		i := slices.IndexFunc(all, func(order []int) bool { return len(lateOf(inOrder(l, order))) == 0 })
		order, e := bus.OrderFor(l)
		switch {
		case i < 0:
			want(t, fmt.Sprint("OrderFor ", l), order, e, none, api.ErrNone)
			count["none"]++
		case i > 0:
			count["not the first one"]++
			fallthrough
		default:
			want(t, fmt.Sprint("OrderFor ", l), order, e, all[i], api.OK)
		}
	}
	if count["none"] < 100 || count["not the first one"] < 100 {
		t.Errorf("too few orders of one kind: %v", count)
	}
}

// TestNeverLate compares responses with those of messages that are carried.
func TestNeverLate(t *testing.T) {
	r := newRandom()
	for range 3000 {
		l := randomStreams(r, 6)
		late, _ := bus.LateIn(l)
		starts := randomStarts(r, l)
		worst, e := bus.WorstFrom(l, starts, 400)
		together, err := bus.WorstFrom(l, make([]int, len(l)), 60)
		if e != api.OK || err != api.OK {
			t.Fatalf("WorstFrom %v: errors %d, %d", l, e, err)
		}
		for i := range l {
			if slices.Contains(late, i) {
				continue
			}
			n, e := bus.ResponseOf(l, i)
			if worst[i] > n {
				t.Errorf("%v from %v: the stream %d has a response of %d, more than %d", l, starts, i, worst[i], n)
			}
			want(t, fmt.Sprint("the worst response of ", l, i, " if all start together"), together[i], api.OK, n, e)
		}
	}
}

func TestLongerStreams(t *testing.T) {
	r := newRandom()
	for range 1500 {
		l := randomStreams(r, 6)
		longer := slices.Clone(l)
		k := r.IntN(len(l))
		longer[k].Length = between(r, l[k].Length, 20)
		for i := range l {
			n, e := bus.ResponseOf(l, i)
			m, err := bus.ResponseOf(longer, i)
			if e != api.OK && err == api.OK || err == api.OK && m < n {
				t.Errorf("ResponseOf %v, %d: %d, error %d; with %v it is %d", l, i, n, e, longer[k], m)
			}
		}
	}
}
