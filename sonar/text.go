package sonar

import (
	"strings"

	"moonpool/api"
	"moonpool/rules"
)

// digits is how many digits the numbers of a string have at most.
const digits = 3

// The words of the string of a device.
const (
	bandWord = iota
	sendWord
	listenWord
	deviceWords // how many there are
)

// The first words of the string of a scene.
const (
	wideWord = iota
	highWord
	sceneWords // how many there are
)

// The words of a ray in the string of a scene.
const (
	fromXWord = iota
	fromYWord
	toXWord
	toYWord
	hitWord
	rayWords // how many there are
)

// FormatDevices is in P4.6.
func FormatDevices(l []api.SonarDevice) string {
	parts := make([]string, len(l))
	for i, d := range l {
		parts[i] = rules.Written(d.Band, d.Send, d.Listen)
	}
	return strings.Join(parts, ";")
}

// ParseDevices is in P4.6.
func ParseDevices(s string) ([]api.SonarDevice, api.Errno) {
	return rules.Parsed(s, readDevices, devicesError)
}

// FormatScene is in P4.6.
func FormatScene(s api.SonarScene) string {
	parts := []string{rules.Written(s.Wide, s.High)}
	for _, r := range s.Rays {
		hit := 0
		if r.Hit {
			hit = 1
		}
		parts = append(parts, rules.Written(r.From.X, r.From.Y, r.To.X, r.To.Y, hit))
	}
	return strings.Join(parts, ";")
}

// ParseScene is in P4.6.
func ParseScene(s string) (api.SonarScene, api.Errno) {
	return rules.Parsed(s, readScene, sceneError)
}

// readDevices reads any devices, valid or not.
func readDevices(s string) ([]api.SonarDevice, bool) {
	var l []api.SonarDevice
	for _, part := range strings.Split(s, ";") {
		n, ok := wordsIn(part, deviceWords)
		if !ok {
			return nil, false
		}
		l = append(l, api.SonarDevice{Band: n[bandWord], Send: n[sendWord], Listen: n[listenWord]})
	}
	return l, true
}

// readScene reads any scene, valid or not.
func readScene(s string) (api.SonarScene, bool) {
	parts := strings.Split(s, ";")
	n, ok := wordsIn(parts[0], sceneWords)
	if !ok {
		return api.SonarScene{}, false
	}
	x := api.SonarScene{Wide: n[wideWord], High: n[highWord]}
	for _, part := range parts[1:] {
		n, ok := wordsIn(part, rayWords)
		if !ok || n[hitWord] > 1 {
			return api.SonarScene{}, false
		}
		x.Rays = append(x.Rays, api.SonarRay{
			From: api.SonarCell{X: n[fromXWord], Y: n[fromYWord]},
			To:   api.SonarCell{X: n[toXWord], Y: n[toYWord]},
			Hit:  n[hitWord] == 1,
		})
	}
	return x, true
}

// wordsIn reads so many numbers, none of which has a sign.
func wordsIn(text string, count int) ([]int, bool) {
	n, ok := rules.NumbersIn(text, digits)
	return n, ok && len(n) == count && !strings.Contains(text, "-")
}
