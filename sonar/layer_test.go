package sonar_test

import (
	"math"
	"math/big"
	"math/rand/v2"
	"slices"
	"testing"

	"moonpool/api"
	"moonpool/sonar"
)

// P4.3, P4.9

// badLayers are layers that CheckLayers refuses, with the index and the error.
type badLayers struct {
	name   string
	layers []api.SonarLayer
	index  int
	err    api.Errno
}

func allBadLayers() []badLayers {
	with := func(i, thick, low, high int) []api.SonarLayer {
		l := exampleLayers()
		l[i] = api.SonarLayer{Thick: thick, Speed: api.Range{Lo: low, Hi: high}}
		return l
	}
	return []badLayers{
		{"none", nil, 0, api.ErrShape},
		{"an empty list", []api.SonarLayer{}, 0, api.ErrShape},
		{"seven", slices.Repeat(exampleLayers()[:1], 7), 0, api.ErrLarge},
		{"seven before items", make([]api.SonarLayer, 7), 0, api.ErrLarge},
		{"Thick 0", with(1, 0, 4, 5), 1, api.ErrRange},
		{"Thick 10001", with(0, 10001, 4, 5), 0, api.ErrRange},
		{"Lo 0", with(1, 10, 0, 5), 1, api.ErrRange},
		{"Lo 101", with(1, 10, 101, 5), 1, api.ErrRange},
		{"Hi 0", with(0, 10, 4, 0), 0, api.ErrRange},
		{"Hi 101", with(1, 10, 4, 101), 1, api.ErrRange},
		{"the least int as Thick", with(1, math.MinInt, 4, 5), 1, api.ErrRange},
		{"the least int as Lo", with(1, 10, math.MinInt, 5), 1, api.ErrRange},
		{"the greatest int as Hi", with(1, 10, 4, math.MaxInt), 1, api.ErrRange},
		{"Lo above Hi", with(1, 10, 6, 5), 1, api.ErrOrder},
		{"range before order", with(1, 0, 6, 5), 1, api.ErrRange},
		{"item by item", append(with(1, 10, 6, 5), api.SonarLayer{}), 1, api.ErrOrder},
	}
}

func TestCheckLayers(t *testing.T) {
	for _, l := range [][]api.SonarLayer{
		exampleLayers(),
		{{Thick: 1, Speed: api.Range{Lo: 1, Hi: 1}}},
		{{Thick: 10000, Speed: api.Range{Lo: 1, Hi: 100}}},
		slices.Repeat(exampleLayers(), 3),
	} {
		i, e := sonar.CheckLayers(l)
		want(t, "CheckLayers", i, e, 0, api.OK)
	}
	for _, c := range allBadLayers() {
		i, e := sonar.CheckLayers(c.layers)
		want(t, "CheckLayers: "+c.name, i, e, c.index, c.err)
		x, e := sonar.DepthIn(c.layers, -1)
		want(t, "DepthIn: "+c.name, x, e, api.Range{}, c.err)
		x, e = sonar.TimeIn(c.layers, -1)
		want(t, "TimeIn: "+c.name, x, e, api.Range{}, c.err)
	}
}

// primeLayers have speeds whose product is great.
func primeLayers() []api.SonarLayer {
	var l []api.SonarLayer
	for _, speed := range []int{97, 89, 83, 79, 73, 71} {
		l = append(l, api.SonarLayer{Thick: 10000, Speed: api.Range{Lo: speed, Hi: speed + 2}})
	}
	return l
}

func TestDepthIn(t *testing.T) {
	one := []api.SonarLayer{{Thick: 1, Speed: api.Range{Lo: 1, Hi: 100}}}
	slow := slices.Repeat([]api.SonarLayer{{Thick: 10000, Speed: api.Range{Lo: 1, Hi: 1}}}, 6)
	for _, c := range []struct {
		name   string
		layers []api.SonarLayer
		time   int
		depths api.Range
		err    api.Errno
	}{
		{"example", exampleLayers(), 4, api.Range{Lo: 17, Hi: 22}, api.OK},
		{"no time", exampleLayers(), 0, api.Range{}, api.OK},
		{"in the first layer", exampleLayers(), 1, api.Range{Lo: 4, Hi: 5}, api.OK},
		{"at the end of the first layer", exampleLayers(), 2, api.Range{Lo: 8, Hi: 10}, api.OK},
		{"the last layer has no end", exampleLayers(), 10, api.Range{Lo: 47, Hi: 58}, api.OK},
		{"one layer", one, 7, api.Range{Lo: 7, Hi: 700}, api.OK},
		{"one layer, the greatest time", one, 100000, api.Range{Lo: 100000, Hi: 10000000}, api.OK},
		{"slow layers", slow, 100000, api.Range{Lo: 100000, Hi: 100000}, api.OK},
		{"through five layers exactly", slow, 50000, api.Range{Lo: 50000, Hi: 50000}, api.OK},
		{"many primes", primeLayers(), 100000, api.Range{Lo: 7107435, Hi: 7307271}, api.OK},
		{"time -1", one, -1, api.Range{}, api.ErrRange},
		{"time too great", one, 100001, api.Range{}, api.ErrRange},
		{"the least int as a time", one, math.MinInt, api.Range{}, api.ErrRange},
	} {
		x, e := sonar.DepthIn(c.layers, c.time)
		want(t, "DepthIn: "+c.name, x, e, c.depths, c.err)
	}
}

func TestTimeIn(t *testing.T) {
	one := []api.SonarLayer{{Thick: 1, Speed: api.Range{Lo: 1, Hi: 100}}}
	for _, c := range []struct {
		name   string
		layers []api.SonarLayer
		depth  int
		times  api.Range
		err    api.Errno
	}{
		{"example", exampleLayers(), 22, api.Range{Lo: 4, Hi: 5}, api.OK},
		{"no depth", exampleLayers(), 0, api.Range{}, api.OK},
		{"in the first layer", exampleLayers(), 1, api.Range{Lo: 0, Hi: 1}, api.OK},
		{"at the end of the first layer", exampleLayers(), 10, api.Range{Lo: 2, Hi: 3}, api.OK},
		{"the last layer has no end", exampleLayers(), 70, api.Range{Lo: 12, Hi: 15}, api.OK},
		{"one layer, the greatest depth", one, 100000, api.Range{Lo: 1000, Hi: 100000}, api.OK},
		{"depth -1", one, -1, api.Range{}, api.ErrRange},
		{"depth too great", one, 100001, api.Range{}, api.ErrRange},
		{"the least int as a depth", one, math.MinInt, api.Range{}, api.ErrRange},
	} {
		x, e := sonar.TimeIn(c.layers, c.depth)
		want(t, "TimeIn: "+c.name, x, e, c.times, c.err)
	}
}

// pace is one speed for each layer.
type pace func(x api.SonarLayer) int

func low(x api.SonarLayer) int { return x.Speed.Lo }

func high(x api.SonarLayer) int { return x.Speed.Hi }

// ends are the times at which sound comes to the end of each layer, the last of which has one here.
func ends(l []api.SonarLayer, speed pace) []*big.Rat {
	at := ratio(0, 1)
	var times []*big.Rat
	for _, x := range l {
		at = new(big.Rat).Add(at, ratio(x.Thick, speed(x)))
		times = append(times, at)
	}
	return times
}

// depthAt is the depth after a time: counted back from the end of the layer in which the sound is then.
func depthAt(l []api.SonarLayer, speed pace, time int) *big.Rat {
	depth := 0
	for i, end := range ends(l, speed) {
		depth += l[i].Thick
		if ratio(time, 1).Cmp(end) <= 0 || i == len(l)-1 {
			back := new(big.Rat).Sub(end, ratio(time, 1))
			back.Mul(back, ratio(speed(l[i]), 1))
			return back.Sub(ratio(depth, 1), back)
		}
	}
	return nil
}

// timeAt is the time to a depth, counted back likewise.
func timeAt(l []api.SonarLayer, speed pace, depth int) *big.Rat {
	sum := 0
	for i, end := range ends(l, speed) {
		sum += l[i].Thick
		if depth <= sum || i == len(l)-1 {
			return new(big.Rat).Sub(end, ratio(sum-depth, speed(l[i])))
		}
	}
	return nil
}

// floor and ceiling are whole numbers next to a fraction.
func floor(x *big.Rat) int { return int(new(big.Int).Div(x.Num(), x.Denom()).Int64()) }

func ceiling(x *big.Rat) int { return -floor(new(big.Rat).Neg(x)) }

func randomLayers(r *rand.Rand) []api.SonarLayer {
	thick, speed := []int{5, 100, 10000}[r.IntN(3)], []int{3, 10, 100}[r.IntN(3)]
	l := make([]api.SonarLayer, between(r, 1, 6))
	for i := range l {
		least := between(r, 1, speed)
		l[i] = api.SonarLayer{Thick: between(r, 1, thick), Speed: api.Range{Lo: least, Hi: between(r, least, speed)}}
	}
	return l
}

// upTo is a random number up to most, often a small one.
func upTo(r *rand.Rand, most int) int {
	return between(r, 0, min(most, []int{10, 100, 2000, most}[r.IntN(4)]))
}

func TestDepthsAndTimesAreExact(t *testing.T) {
	r := newRandom()
	for range 3000 {
		l := randomLayers(r)
		if r.IntN(5) == 0 {
			l = primeLayers()
		}
		time, depth := upTo(r, 100000), upTo(r, 100000)
		x, e := sonar.DepthIn(l, time)
		want(t, "DepthIn", x, e, api.Range{Lo: floor(depthAt(l, low, time)), Hi: ceiling(depthAt(l, high, time))}, api.OK)
		x, e = sonar.TimeIn(l, depth)
		want(t, "TimeIn", x, e, api.Range{Lo: floor(timeAt(l, high, depth)), Hi: ceiling(timeAt(l, low, depth))}, api.OK)
	}
}

func TestDepthsAfterMoreTime(t *testing.T) {
	r := newRandom()
	for range 500 {
		l := randomLayers(r)
		time := upTo(r, 99000)
		x, _ := sonar.DepthIn(l, time)
		later, e := sonar.DepthIn(l, time+upTo(r, 1000))
		want(t, "no less deep", later.Lo >= x.Lo && later.Hi >= x.Hi, e, true, api.OK)
		for _, depth := range []int{x.Lo, x.Hi, between(r, x.Lo, x.Hi)} {
			if depth > api.MaxSonarDepth {
				continue
			}
			times, e := sonar.TimeIn(l, depth)
			want(t, "the time lies in the range of times", times.Lo <= time && time <= times.Hi, e, true, api.OK)
		}
	}
}

func TestExactSpeeds(t *testing.T) {
	r := newRandom()
	for range 500 {
		var l []api.SonarLayer
		for range between(r, 1, 6) {
			speed := between(r, 1, 20)
			l = append(l, api.SonarLayer{Thick: speed * between(r, 1, 30), Speed: api.Range{Lo: speed, Hi: speed}})
		}
		time := upTo(r, 1000)
		x, e := sonar.DepthIn(l, time)
		want(t, "one depth", x.Lo, e, x.Hi, api.OK)
		times, e := sonar.TimeIn(l, x.Lo)
		want(t, "one time", times, e, api.Range{Lo: time, Hi: time}, api.OK)
	}
}
