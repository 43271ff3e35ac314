package sonar

import (
	"strings"

	"moonpool/api"
	"moonpool/rules"
)

// digits is how many digits the numbers of a string have at most.
const digits = 3

// The words of the string of a device.
const (
	bandWord = iota
	sendWord
	listenWord
	deviceWords // how many there are
)

// The first words of the string of a scene.
const (
	wideWord = iota
	highWord
	sceneWords // how many there are
)

// The words of a ray in the string of a scene.
const (
	fromXWord = iota
	fromYWord
	toXWord
	toYWord
	hitWord
	rayWords // how many there are
)

// FormatDevices is in P4.6.
func FormatDevices(l []api.SonarDevice) string {
	return rules.Joined(l, ";", func(d api.SonarDevice) string { return rules.Written(d.Band, d.Send, d.Listen) })
}

// ParseDevices is in P4.6.
func ParseDevices(s string) ([]api.SonarDevice, api.Errno) {
	return rules.Parsed(s, readDevices, devicesError)
}

// FormatScene is in P4.6.
func FormatScene(s api.SonarScene) string {
	parts := []string{rules.Written(s.Wide, s.High)}
	for _, r := range s.Rays {
		hit := 0
		if r.Hit {
			hit = 1
		}
		parts = append(parts, rules.Written(r.From.X, r.From.Y, r.To.X, r.To.Y, hit))
	}
	return strings.Join(parts, ";")
}

// ParseScene is in P4.6.
func ParseScene(s string) (api.SonarScene, api.Errno) {
	return rules.Parsed(s, readScene, sceneError)
}

// readDevices reads any devices, valid or not.
func readDevices(s string) ([]api.SonarDevice, bool) { return rules.ReadSome(s, ";", readDevice) }

func readDevice(s string) (api.SonarDevice, bool) {
	n, ok := wordsIn(s, deviceWords)
	if !ok {
		return api.SonarDevice{}, false
	}
	return api.SonarDevice{Band: n[bandWord], Send: n[sendWord], Listen: n[listenWord]}, true
}

// readScene reads any scene, valid or not.
func readScene(s string) (api.SonarScene, bool) {
	parts := strings.Split(s, ";")
	n, ok := wordsIn(parts[0], sceneWords)
	if !ok {
		return api.SonarScene{}, false
	}
	x := api.SonarScene{Wide: n[wideWord], High: n[highWord]}
	for _, part := range parts[1:] {
		n, ok := wordsIn(part, rayWords)
		if !ok || n[hitWord] > 1 {
			return api.SonarScene{}, false
		}
		x.Rays = append(x.Rays, api.SonarRay{
			From: api.SonarCell{X: n[fromXWord], Y: n[fromYWord]},
			To:   api.SonarCell{X: n[toXWord], Y: n[toYWord]},
			Hit:  n[hitWord] == 1,
		})
	}
	return x, true
}

// wordsIn reads so many numbers, none of which has a sign.
func wordsIn(text string, count int) ([]int, bool) {
	n, ok := rules.CountsIn(text, digits)
	return n, ok && len(n) == count
}
