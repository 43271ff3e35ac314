package sonar_test

import (
	"math"
	"math/rand/v2"
	"slices"
	"testing"

	"moonpool/api"
	"moonpool/sonar"
)

// P4.2, P4.8

// badWaves are a template and samples that are refused, with the error.
type badWaves struct {
	name              string
	template, samples []api.Gauss
	err               api.Errno
}

func allBadWaves() []badWaves {
	template, samples := exampleTemplate(), exampleSamples()
	with := func(wave []api.Gauss, i int, z api.Gauss) []api.Gauss {
		wave = slices.Clone(wave)
		wave[i] = z
		return wave
	}
	re, im := api.Gauss{Re: 1001}, api.Gauss{Im: -1001}
	return []badWaves{
		{"nothing", nil, nil, api.ErrShape},
		{"no template", nil, samples, api.ErrShape},
		{"no samples", template, nil, api.ErrShape},
		{"a template of 9", make([]api.Gauss, 9), samples, api.ErrLarge},
		{"41 samples", template, make([]api.Gauss, 41), api.ErrLarge},
		{"a template of 9 before its parts", with(make([]api.Gauss, 9), 0, re), samples, api.ErrLarge},
		{"41 samples before their parts", template, with(make([]api.Gauss, 41), 0, re), api.ErrLarge},
		{"a part of the template too great", with(template, 1, re), samples, api.ErrRange},
		{"a part of the template too small", with(template, 0, im), samples, api.ErrRange},
		{"a part of the samples too great", template, with(samples, 3, re), api.ErrRange},
		{"a part of the samples too small", template, with(samples, 2, im), api.ErrRange},
		{"the least int in a template", with(template, 1, api.Gauss{Re: math.MinInt}), samples, api.ErrRange},
		{"the least int in samples", template, with(samples, 1, api.Gauss{Im: math.MinInt}), api.ErrRange},
		{"the template before the samples", with(template, 1, re), nil, api.ErrRange},
		{"a long template before no samples", make([]api.Gauss, 9), nil, api.ErrLarge},
		{"no template before many samples", nil, make([]api.Gauss, 41), api.ErrShape},
	}
}

func TestMatchAt(t *testing.T) {
	i := []api.Gauss{{Im: 1}}
	mixed := []api.Gauss{{Re: 1, Im: 2}, {Re: -3, Im: 4}}
	great := slices.Repeat([]api.Gauss{{Re: 1000, Im: 1000}}, 40)
	for _, c := range []struct {
		name              string
		template, samples []api.Gauss
		shift             int
		match             api.Gauss
		err               api.Errno
	}{
		{"example at 0", exampleTemplate(), exampleSamples(), 0, api.Gauss{Re: -2}, api.OK},
		{"example at 1", exampleTemplate(), exampleSamples(), 1, api.Gauss{Re: 6}, api.OK},
		{"example at 2", exampleTemplate(), exampleSamples(), 2, api.Gauss{Re: -3}, api.OK},
		{"example at 3", exampleTemplate(), exampleSamples(), 3, api.Gauss{}, api.ErrMissing},
		{"example at -1", exampleTemplate(), exampleSamples(), -1, api.Gauss{}, api.ErrMissing},
		{"the greatest shift", exampleTemplate(), exampleSamples(), math.MaxInt, api.Gauss{}, api.ErrMissing},
		{"the least shift", exampleTemplate(), exampleSamples(), math.MinInt, api.Gauss{}, api.ErrMissing},
		{"a template that is too long", exampleSamples(), exampleTemplate(), 0, api.Gauss{}, api.ErrMissing},
		{"as long as the samples", mixed, mixed, 0, api.Gauss{Re: 30}, api.OK},
		{"the conjugate is of the template", i, []api.Gauss{{Re: 2}}, 0, api.Gauss{Im: -2}, api.OK},
		{"not of the samples", []api.Gauss{{Re: 2}}, i, 0, api.Gauss{Im: 2}, api.OK},
		{"both complex", []api.Gauss{{Re: 1, Im: 2}}, []api.Gauss{{Re: 3, Im: 4}}, 0, api.Gauss{Re: 11, Im: -2}, api.OK},
		{"the greatest match", great[:8], great, 32, api.Gauss{Re: 16000000}, api.OK},
		{"the last shift fits no more", great[:8], great, 33, api.Gauss{}, api.ErrMissing},
		{"zeros", make([]api.Gauss, 1), []api.Gauss{{Re: -1, Im: -1}}, 0, api.Gauss{}, api.OK},
	} {
		z, e := sonar.MatchAt(c.template, c.samples, c.shift)
		want(t, "MatchAt: "+c.name, z, e, c.match, c.err)
	}
	for _, c := range allBadWaves() {
		z, e := sonar.MatchAt(c.template, c.samples, -1)
		want(t, "MatchAt: "+c.name, z, e, api.Gauss{}, c.err)
		l, e := sonar.EchoesIn(c.template, c.samples, 0)
		want(t, "EchoesIn: "+c.name, l, e, []int{}, c.err)
	}
}

func TestEchoesIn(t *testing.T) {
	one := []api.Gauss{{Re: 1}}
	real := func(parts ...int) []api.Gauss {
		var wave []api.Gauss
		for _, n := range parts {
			wave = append(wave, api.Gauss{Re: n})
		}
		return wave
	}
	great := slices.Repeat([]api.Gauss{{Re: 1000, Im: 1000}}, 8)
	const greatest = 256000000000000
	for _, c := range []struct {
		name              string
		template, samples []api.Gauss
		limit             int
		echoes            []int
		err               api.Errno
	}{
		{"example", exampleTemplate(), exampleSamples(), 9, []int{1}, api.OK},
		{"example, limit as great as the power", exampleTemplate(), exampleSamples(), 36, []int{1}, api.OK},
		{"example, greater limit", exampleTemplate(), exampleSamples(), 37, nil, api.OK},
		{"one sample: each power that is enough", one, real(3, 1, -3, 2, 3, 0), 4, []int{0, 2, 3, 4}, api.OK},
		{"zeros are no echoes", one, real(0, 0), 1, nil, api.OK},
		{"of equal powers the first one", real(1, 0), real(2, -2, 2, 0, 0, 2, 0), 1, []int{0, 5}, api.OK},
		{"equal powers far enough away", real(1, 0), real(2, 0, 2, 0), 1, []int{0, 2}, api.OK},
		{"an echo that is hidden by a greater one hides others", real(1, 0), real(1, 2, 3, 2, 1, 0), 1, []int{2}, api.OK},
		{"as far away as the template is long", real(1, 0, 0), real(5, 0, 0, 4, 0, 6, 0, 0), 1, []int{0, 5}, api.OK},
		{"less far away than the template is long", real(1, 0, 0), real(5, 0, 4, 0, 0), 1, []int{0}, api.OK},
		{"one shift alone", exampleSamples(), exampleSamples(), 361, []int{0}, api.OK},
		{"one shift alone, greater limit", exampleSamples(), exampleSamples(), 362, nil, api.OK},
		{"both parts count", one, []api.Gauss{{Re: 3, Im: 4}}, 25, []int{0}, api.OK},
		{"the greatest power", great, great, greatest, []int{0}, api.OK},
		{"no power is greater", great, great, greatest + 1, nil, api.OK},
		{"the greatest limit", great, great, 1000000000000000, nil, api.OK},
		{"limit too great", great, great, 1000000000000001, nil, api.ErrRange},
		{"limit 0", one, one, 0, nil, api.ErrRange},
		{"limit -1", one, one, -1, nil, api.ErrRange},
		{"the least limit", one, one, 1, []int{0}, api.OK},
		{"fewer samples than the template has", exampleSamples(), exampleTemplate(), 1, nil, api.ErrShape},
		{"shape before limit", exampleSamples(), exampleTemplate(), 0, nil, api.ErrShape},
	} {
		l, e := sonar.EchoesIn(c.template, c.samples, c.limit)
		want(t, "EchoesIn: "+c.name, l, e, c.echoes, c.err)
	}
}

func randomWave(r *rand.Rand, length, most int) []api.Gauss {
	wave := make([]api.Gauss, length)
	for i := range wave {
		wave[i] = api.Gauss{Re: between(r, -most, most), Im: between(r, -most, most)}
	}
	return wave
}

// product is that of two whole complex numbers.
func product(a, b api.Gauss) api.Gauss {
	return api.Gauss{Re: a.Re*b.Re - a.Im*b.Im, Im: a.Re*b.Im + a.Im*b.Re}
}

func conjugate(z api.Gauss) api.Gauss { return api.Gauss{Re: z.Re, Im: -z.Im} }

// matchOf is a match in whole numbers.
func matchOf(template, samples []api.Gauss, shift int) api.Gauss {
	var sum api.Gauss
	for j, z := range template {
		p := product(conjugate(z), samples[shift+j])
		sum.Re += p.Re
		sum.Im += p.Im
	}
	return sum
}

func powerOf(z api.Gauss) int { return z.Re*z.Re + z.Im*z.Im }

// echoesOf are echoes by their definition.
func echoesOf(template, samples []api.Gauss, limit int) []int {
	var echoes []int
	shifts := len(samples) - len(template) + 1
	for s := range shifts {
		power := powerOf(matchOf(template, samples, s))
		is := power >= limit
		for other := range shifts {
			p := powerOf(matchOf(template, samples, other))
			if other < s && s-other < len(template) && power <= p || other > s && other-s < len(template) && power < p {
				is = false
			}
		}
		if is {
			echoes = append(echoes, s)
		}
	}
	return echoes
}

func TestMatchesAndEchoesAreExact(t *testing.T) {
	r := newRandom()
	for range 1500 {
		most := []int{1, 3, 1000}[r.IntN(3)]
		template := randomWave(r, between(r, 1, 8), most)
		samples := randomWave(r, between(r, len(template), 40), most)
		for shift := range len(samples) - len(template) + 1 {
			z, e := sonar.MatchAt(template, samples, shift)
			want(t, "MatchAt", z, e, matchOf(template, samples, shift), api.OK)
		}
		limit := 1 + r.IntN(most*most*4)
		l, e := sonar.EchoesIn(template, samples, limit)
		want(t, "EchoesIn", l, e, echoesOf(template, samples, limit), api.OK)
	}
}

// times is a wave times a whole complex number.
func times(wave []api.Gauss, z api.Gauss) []api.Gauss {
	scaled := make([]api.Gauss, len(wave))
	for i, x := range wave {
		scaled[i] = product(x, z)
	}
	return scaled
}

func TestScaledMatches(t *testing.T) {
	r := newRandom()
	for range 500 {
		template, samples := randomWave(r, between(r, 1, 8), 20), randomWave(r, between(r, 8, 40), 20)
		z := randomWave(r, 1, 20)[0]
		shift := r.IntN(len(samples) - len(template) + 1)
		match, _ := sonar.MatchAt(template, samples, shift)
		x, e := sonar.MatchAt(template, times(samples, z), shift)
		want(t, "MatchAt of samples times a number", x, e, product(match, z), api.OK)
		x, e = sonar.MatchAt(times(template, z), samples, shift)
		want(t, "MatchAt of a template times a number", x, e, product(match, conjugate(z)), api.OK)
	}
}

func TestEchoesOfGreaterLimits(t *testing.T) {
	r := newRandom()
	for range 500 {
		template, samples := randomWave(r, between(r, 1, 8), 3), randomWave(r, between(r, 8, 40), 3)
		limit := between(r, 1, 200)
		few, _ := sonar.EchoesIn(template, samples, limit+r.IntN(500))
		many, e := sonar.EchoesIn(template, samples, limit)
		for _, shift := range few {
			want(t, "an echo of a greater limit", slices.Contains(many, shift), e, true, api.OK)
		}
	}
}
