package sonar

import (
	"moonpool/api"
	"moonpool/rules"
)

// MatchAt is in P4.2.
func MatchAt(template, samples []api.Gauss, shift int) (api.Gauss, api.Errno) {
	if e := wavesError(template, samples); e != api.OK {
		return api.Gauss{}, e
	}
	if shift < 0 || shift > len(samples)-len(template) {
		return api.Gauss{}, api.ErrMissing
	}
	return match(template, samples[shift:]), api.OK
}

// EchoesIn is in P4.2.
func EchoesIn(template, samples []api.Gauss, limit int) ([]int, api.Errno) {
	if e := wavesError(template, samples); e != api.OK {
		return nil, e
	}
	if len(samples) < len(template) {
		return nil, api.ErrShape
	}
	if e := rules.LimitError(limit, 1, api.MaxSonarPower); e != api.OK {
		return nil, e
	}
	powers := powersOf(template, samples)
	var echoes []int
	for shift, power := range powers {
		if power >= limit && isPeak(powers, shift, len(template)) {
			echoes = append(echoes, shift)
		}
	}
	return echoes, api.OK
}

// wavesError is the error of a template and samples.
func wavesError(template, samples []api.Gauss) api.Errno {
	return rules.FirstError(waveError(template, api.MaxSonarTemplate), waveError(samples, api.MaxSonarSamples))
}

func waveError(wave []api.Gauss, most int) api.Errno {
	_, e := rules.CheckList(wave, 1, most, func(z api.Gauss) api.Errno {
		return rules.SizeError(api.MaxSonarPart, z.Re, z.Im)
	})
	return e
}

// match is that of a template with the first ones of samples.
// Its parts, and those of its terms, are at most 16 million in size, so that they are exact.
func match(template, samples []api.Gauss) api.Gauss {
	var sum complex128
	for j, z := range template {
		sum += complexOf(z.Re, -z.Im) * complexOf(samples[j].Re, samples[j].Im)
	}
	return api.Gauss{Re: int(real(sum)), Im: int(imag(sum))}
}

func complexOf(re, im int) complex128 { return complex(float64(re), float64(im)) }

// powersOf are the powers at all shifts.
func powersOf(template, samples []api.Gauss) []int {
	powers := make([]int, len(samples)-len(template)+1)
	for shift := range powers {
		z := match(template, samples[shift:])
		powers[shift] = z.Re*z.Re + z.Im*z.Im
	}
	return powers
}

// isPeak is whether a power is greater than each one before it, and not less than each one after it, that is less than a length away.
func isPeak(powers []int, shift, length int) bool {
	for i := max(0, shift-length+1); i < min(len(powers), shift+length); i++ {
		if powers[i] > powers[shift] || powers[i] == powers[shift] && i < shift {
			return false
		}
	}
	return true
}
