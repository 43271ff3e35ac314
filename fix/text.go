package fix

import (
	"strings"

	"moonpool/api"
	"moonpool/rules"
)

// digits is how many digits the numbers of a string have at most.
const digits = 6

// The words of a reading after that of its kind.
const (
	indexWord = iota
	lowWord
	highWord
	readingWords // how many there are
)

// FormatBox is in P5.6.
func FormatBox(b api.FixBox) string { return rules.Written(boxOf(b).ends()...) }

// ParseBox is in P5.6. No box has a string that is too long, so that this is no error of its own.
func ParseBox(s string) (api.FixBox, api.Errno) {
	b, ok := readBox(s)
	if !ok {
		return api.FixBox{}, api.ErrSyntax
	}
	if e := b.orderError(); e != api.OK {
		return api.FixBox{}, e
	}
	return b.given(), api.OK
}

// FormatStep is in P5.6.
func FormatStep(s api.FixStep) string {
	parts := []string{rules.Written(s.Move.Ticks) + " " + FormatBox(s.Move.Speed) + "/" + rules.Written(s.Vote.Wrong)}
	for _, r := range s.Vote.Readings {
		parts = append(parts, kindWord(r.Kind)+" "+rules.Written(r.Index, r.Value.Lo, r.Value.Hi))
	}
	return strings.Join(parts, ";")
}

// ParseStep is in P5.6.
func ParseStep(s string) (api.FixStep, api.Errno) {
	return rules.Parsed(s, readStep, func(x api.FixStep) api.Errno {
		if e := moveError(x.Move); e != api.OK {
			return e
		}
		if len(x.Vote.Readings) > api.MaxFixReadings {
			return api.ErrLarge
		}
		return wrongError(x.Vote)
	})
}

// readBox reads any box, empty or not.
func readBox(s string) (box, bool) {
	ends, ok := rules.NumbersIn(s, digits)
	var b box
	if !ok || len(ends) != 2*len(b) {
		return box{}, false
	}
	for i := range b {
		b[i] = api.Range{Lo: ends[2*i], Hi: ends[2*i+1]}
	}
	return b, true
}

// readStep reads any step, valid or not.
func readStep(s string) (api.FixStep, bool) {
	before, after, _ := strings.Cut(s, "/")
	move, isMove := readMove(before)
	vote, isVote := readVote(after)
	if !isMove || !isVote {
		return api.FixStep{}, false
	}
	return api.FixStep{Move: move, Vote: vote}, true
}

func readMove(s string) (api.FixMove, bool) {
	word, rest, _ := strings.Cut(s, " ")
	ticks, isTicks := rules.CountIn(word, digits)
	speed, isSpeed := readBox(rest)
	return api.FixMove{Ticks: ticks, Speed: speed.given()}, isTicks && isSpeed
}

func readVote(s string) (api.FixVote, bool) {
	parts := strings.Split(s, ";")
	wrong, ok := rules.CountIn(parts[0], digits)
	if !ok {
		return api.FixVote{}, false
	}
	v := api.FixVote{Wrong: wrong}
	for _, part := range parts[1:] {
		r, ok := readReading(part)
		if !ok {
			return api.FixVote{}, false
		}
		v.Readings = append(v.Readings, r)
	}
	return v, true
}

func readReading(s string) (api.FixReading, bool) {
	word, rest, _ := strings.Cut(s, " ")
	n, ok := rules.NumbersIn(rest, digits, indexWord)
	if !ok || len(n) != readingWords {
		return api.FixReading{}, false
	}
	for kind := range api.FixKinds {
		if kindWord(kind) == word {
			return api.FixReading{Kind: kind, Index: n[indexWord], Value: api.Range{Lo: n[lowWord], Hi: n[highWord]}}, true
		}
	}
	return api.FixReading{}, false
}

// kindWord is the word for a kind of readings.
func kindWord(kind int) string {
	switch kind {
	case api.FixRange:
		return "range"
	case api.FixAxis:
		return "axis"
	}
	return ""
}

// ends are the ends of the ranges of a box.
func (b box) ends() []int {
	var ends []int
	for _, r := range b {
		ends = append(ends, r.Lo, r.Hi)
	}
	return ends
}
