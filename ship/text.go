package ship

import (
	"strings"

	"moonpool/api"
	"moonpool/rules"
)

// digits is how many digits NUMBER, TASK and AMOUNT have at most.
const digits = 7

// The parts of a form, which is a string of them.
const (
	tagPart    = 't'
	wordPart   = 'w'
	numberPart = 'n'
	restPart   = 'r'
)

// parts are those of a text after its first word. No form has two of one kind.
type parts struct {
	tag    string // TAG
	word   string // KEEP, NEW, PERSON, LAB or PART
	number int    // NUMBER, TASK or AMOUNT
	rest   string // REST
}

// request is an entry, and the parts of its text.
type request struct {
	api.ShipEntry
	parts
}

// row is, for the texts with one first word, the role, the form, and the effect. If this finds an error, it changes nothing.
type row struct {
	role   int
	form   string
	effect func(h *house, x request) api.Errno
}

// table has the texts of entries, by their first words.
func table() map[string]row {
	return map[string]row{
		"note":     {api.ShipGuest, "r", (*house).note},
		"permit":   {api.ShipChief, "r", (*house).permit},
		"sign":     {api.ShipPilot, "n", (*house).sign},
		"begin":    {api.ShipPilot, "n", (*house).begin},
		"move":     {api.ShipPilot, "r", (*house).move},
		"task":     {api.ShipPilot, "n", (*house).task},
		"handover": {api.ShipPilot, "w", (*house).handOver},
		"home":     {api.ShipPilot, "", (*house).goHome},
		"fault":    {api.ShipPilot, "w", (*house).fail},
		"repair":   {api.ShipChief, "w", (*house).repair},
		"sample":   {api.ShipScientist, "tnw", (*house).sample},
		"split":    {api.ShipScientist, "tnw", (*house).split},
		"use":      {api.ShipScientist, "tn", (*house).use},
		"transfer": {api.ShipScientist, "tw", (*house).transfer},
		"label":    {api.ShipScientist, "tw", (*house).label},
	}
}

func firstWord(text string) string {
	word, _, _ := strings.Cut(text, " ")
	return word
}

// partsOf reads the parts of a text. It is false if the text is not of the form.
func partsOf(text, form string) (parts, bool) {
	var p parts
	_, left, isMore := strings.Cut(text, " ")
	for _, kind := range form {
		if !isMore {
			return parts{}, false
		}
		word := left
		if kind == restPart {
			isMore = false
		} else {
			word, left, isMore = strings.Cut(left, " ")
		}
		if !p.read(kind, word) {
			return parts{}, false
		}
	}
	return p, !isMore
}

// read reads one part. It is false if that is not of its kind.
func (p *parts) read(kind rune, word string) bool {
	isRead := word != ""
	switch kind {
	case tagPart:
		p.tag = word
	case wordPart:
		p.word = word
	case numberPart:
		p.number, isRead = rules.CountIn(word, digits)
	case restPart:
		p.rest, isRead = word, true
	}
	return isRead
}

// note has no effect.
func (h *house) note(request) api.Errno { return api.OK }
