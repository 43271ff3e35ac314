package ship_test

import (
	"fmt"
	"math/rand/v2"
	"regexp"
	"slices"
	"strconv"
	"strings"
	"testing"

	"moonpool/api"
	"moonpool/bus"
	"moonpool/dive"
	"moonpool/fix"
	"moonpool/ship"
)

// P10.2, P10.3, P10.5: whatever is asked, all entries of a log are looked through.

// model is a net, and a valid log.
type model struct {
	net api.ShipNet
	log []api.ShipEntry
}

// made is an entry, its index, its first word, and its further words.
type made struct {
	api.ShipEntry
	index int
	first string
	words []string
}

func (x made) number(word int) int { return must(atoi(x.words[word])) }

func atoi(s string) (int, api.Errno) {
	n, err := strconv.Atoi(s)
	if err != nil {
		return 0, api.ErrSyntax
	}
	return n, api.OK
}

// form is what texts with a first word look like, and the role for them.
type form struct {
	text *regexp.Regexp
	role int
}

// forms are those of all texts, by their first words.
var forms = map[string]form{
	"note":     formOf("note .*", api.ShipGuest),
	"permit":   formOf("permit .*", api.ShipChief),
	"sign":     formOf("sign #", api.ShipPilot),
	"begin":    formOf("begin #", api.ShipPilot),
	"move":     formOf("move .*", api.ShipPilot),
	"task":     formOf("task #", api.ShipPilot),
	"handover": formOf("handover _", api.ShipPilot),
	"home":     formOf("home", api.ShipPilot),
	"fault":    formOf("fault _", api.ShipPilot),
	"repair":   formOf("repair _", api.ShipChief),
	"sample":   formOf("sample _ # _", api.ShipScientist),
	"split":    formOf("split _ # _", api.ShipScientist),
	"use":      formOf("use _ #", api.ShipScientist),
	"transfer": formOf("transfer _ _", api.ShipScientist),
	"label":    formOf("label _ _", api.ShipScientist),
}

func formOf(text string, role int) form {
	for sign, pattern := range map[string]string{"#": "(0|[1-9][0-9]{0,6})", "_": "([^ ]+)", ".*": "(.*)"} {
		text = strings.ReplaceAll(text, sign, pattern)
	}
	return form{regexp.MustCompile("^" + text + "$"), role}
}

// madeOf is what an entry is made of. It is false if its text is malformed.
func madeOf(index int, e api.ShipEntry) (made, bool) {
	first := firstOf(e)
	f, ok := forms[first]
	if !ok {
		return made{}, false
	}
	words := f.text.FindStringSubmatch(e.Text)
	if words == nil {
		return made{}, false
	}
	return made{e, index, first, words[1:]}, true
}

func firstOf(e api.ShipEntry) string { return strings.Split(e.Text, " ")[0] }

// made are the entries with one of these first words.
func (m model) made(first ...string) []made {
	var l []made
	for i, e := range m.log {
		if x, ok := madeOf(i, e); ok && slices.Contains(first, x.first) {
			l = append(l, x)
		}
	}
	return l
}

// before is the model before an entry.
func (m model) before(x made) model { return model{m.net, m.log[:x.index]} }

func (m model) permits() []api.ShipPermit {
	var l []api.ShipPermit
	for i, x := range m.made("permit") {
		p := api.ShipPermit{Plan: must(dive.ParsePlan(x.words[0]))}
		for _, y := range m.made("sign") {
			if y.number(0) == i+1 {
				p.Signed = append(p.Signed, y.By)
			}
		}
		p.Used = slices.ContainsFunc(m.made("begin"), func(y made) bool { return y.number(0) == i+1 })
		l = append(l, p)
	}
	return l
}

func (m model) dives() []api.ShipDive {
	var l []api.ShipDive
	for _, x := range m.made("begin") {
		d := api.ShipDive{Permit: x.number(0) - 1, Pilot: x.By, Box: m.net.Start, Open: true}
		for _, y := range m.made("move", "task", "handover", "home") {
			if y.index < x.index || !d.Open {
				continue
			}
			switch y.first {
			case "move":
				d.Box = must(fix.After(m.net.Fix, d.Box, must(fix.ParseStep(y.words[0]))))
			case "task":
				d.Tasks = append(d.Tasks, y.number(0))
			case "handover":
				d.Pilot = y.words[0]
			case "home":
				d.Open = false
			}
		}
		states := must(dive.StatesOf(m.net.Site, m.net.Begin, d.Tasks))
		d.State = states[len(states)-1]
		l = append(l, d)
	}
	return l
}

func (m model) failed() []int {
	var l []int
	for part, name := range m.net.Bus.Parts {
		count := 0
		for _, x := range m.made("fault", "repair") {
			if x.words[0] == name {
				count++
			}
		}
		if count%2 == 1 {
			l = append(l, part)
		}
	}
	return l
}

func (m model) samples() []api.ShipSample {
	var l []api.ShipSample
	for _, x := range m.made("sample", "split") {
		l = append(l, m.sampleOf(x))
	}
	return l
}

// sampleOf is a sample that was taken or split by an entry.
func (m model) sampleOf(x made) api.ShipSample {
	s := api.ShipSample{Tag: x.words[0], Preservative: x.words[2], At: x.At, Amount: x.number(1), Taken: x.number(1), Chain: []api.ShipLink{linkOf(x.At, "", x.By)}}
	if x.first == "sample" {
		dives := m.before(x).dives()
		s.Dive, s.Box = len(dives)-1, dives[len(dives)-1].Box
	} else {
		s = m.before(x).sample(x.words[0])
		s.Tag, s.Origin, s.Lab, s.Amount, s.Used, s.Taken = x.words[2], x.words[0], "", x.number(1), 0, 0
	}
	for _, y := range m.made("split", "use", "transfer", "label") {
		if y.index > x.index && y.words[0] == s.Tag {
			s = changedBy(s, y)
		}
	}
	return s
}

// changedBy is a sample after an entry that names it first.
func changedBy(s api.ShipSample, x made) api.ShipSample {
	switch x.first {
	case "split":
		s.Amount -= x.number(1)
	case "use":
		s.Amount, s.Used = s.Amount-x.number(1), s.Used+x.number(1)
	case "transfer":
		s.Chain = append(slices.Clone(s.Chain), linkOf(x.At, x.By, x.words[1]))
	case "label":
		s.Lab = x.words[1]
	}
	return s
}

// sample is the one with a tag, or one without a tag.
func (m model) sample(tag string) api.ShipSample {
	for _, x := range m.made("sample", "split") {
		if x.first == "sample" && x.words[0] == tag || x.first == "split" && x.words[2] == tag {
			return m.sampleOf(x)
		}
	}
	return api.ShipSample{}
}

func (m model) state() api.ShipState {
	return api.ShipState{Permits: m.permits(), Dives: m.dives(), Failed: m.failed(), Samples: m.samples()}
}

// open is the open dive, if there is one.
func (m model) open() (api.ShipDive, bool) {
	for _, d := range m.dives() {
		if d.Open {
			return d, true
		}
	}
	return api.ShipDive{}, false
}

// role is that of a person, or -1.
func (m model) role(name string) int {
	for _, p := range m.net.People {
		if p.Name == name {
			return p.Role
		}
	}
	return -1
}

func (m model) works() bool {
	mode, e := bus.ModeAfter(m.net.Bus, m.failed())
	return e == api.OK && mode <= m.net.Works
}

var names, plainTexts = regexp.MustCompile("^[A-Za-z][A-Za-z0-9-]{0,11}$"), regexp.MustCompile("^[ -~]*$")

func isName(s string) bool { return names.MatchString(s) }

// holderOf is who has a sample.
func holderOf(s api.ShipSample) string { return s.Chain[len(s.Chain)-1].To }

// reason is an error, and when it applies. It is asked only if none before it applies.
type reason struct {
	err     api.Errno
	applies func() bool
}

func always(is bool) func() bool { return func() bool { return is } }

// errorOf is the error of a further entry.
func (m model) errorOf(e api.ShipEntry) api.Errno {
	x, isFormed := madeOf(len(m.log), e)
	f, isKnown := forms[firstOf(e)]
	last := 0
	for _, earlier := range m.log {
		last = earlier.At
	}
	for _, r := range []reason{
		{api.ErrLarge, always(len(m.log) >= 60)},
		{api.ErrMissing, always(m.role(e.By) < 0)},
		{api.ErrRange, always(e.At < 0 || e.At > 1000000000000)},
		{api.ErrOrder, always(e.At < last)},
		{api.ErrLarge, always(len(e.Text) > 400)},
		{api.ErrForm, always(!plainTexts.MatchString(e.Text))},
		{api.ErrSyntax, always(!isKnown)},
		{api.ErrAllowed, always(m.role(e.By) < f.role)},
		{api.ErrSyntax, always(!isFormed)},
	} {
		if r.applies() {
			return r.err
		}
	}
	return m.tableError(x)
}

// tableError is the error that the table names for an entry.
func (m model) tableError(x made) api.Errno {
	var reasons []reason
	switch x.first {
	case "permit", "move":
		return m.restError(x)
	case "sign", "begin":
		reasons = m.permitReasons(x)
	case "task", "handover", "home":
		reasons = m.diveReasons(x)
	case "fault", "repair":
		reasons = m.partReasons(x)
	case "note":
	default:
		reasons = m.sampleReasons(x)
	}
	for _, r := range reasons {
		if r.applies() {
			return r.err
		}
	}
	return api.OK
}

// restError is the error of a text with a rest.
func (m model) restError(x made) api.Errno {
	if x.first == "permit" {
		plan, e := dive.ParsePlan(x.words[0])
		if e != api.OK {
			return e
		}
		if _, e := dive.CheckPlan(m.net.Site, m.net.Begin, plan); e != api.OK {
			return e
		}
		if len(m.permits()) >= 6 {
			return api.ErrFull
		}
		return api.OK
	}
	d, isOpen := m.open()
	if !isOpen {
		return api.ErrNone
	}
	if d.Pilot != x.By {
		return api.ErrState
	}
	step, e := fix.ParseStep(x.words[0])
	if e != api.OK {
		return e
	}
	if _, e := fix.CheckSteps(m.net.Fix, []api.FixStep{step}); e != api.OK {
		return e
	}
	_, e = fix.After(m.net.Fix, d.Box, step)
	return e
}

func (m model) permitReasons(x made) []reason {
	permit := func() api.ShipPermit { return m.permits()[x.number(0)-1] }
	hasSigned := func() bool { return slices.Contains(permit().Signed, x.By) }
	number := x.number(0)
	reasons := []reason{
		{api.ErrMissing, always(number < 1 || number > len(m.permits()))},
		{api.ErrState, func() bool { return permit().Used }},
	}
	if x.first == "sign" {
		return append(reasons, reason{api.ErrDouble, hasSigned})
	}
	_, isOpen := m.open()
	return append(reasons,
		reason{api.ErrRefused, func() bool { return len(permit().Signed) < 2 || !hasSigned() }},
		reason{api.ErrBusy, always(isOpen)},
		reason{api.ErrBreak, always(!m.works())},
		reason{api.ErrFull, always(len(m.dives()) >= 6)},
	)
}

func (m model) diveReasons(x made) []reason {
	d, isOpen := m.open()
	reasons := []reason{
		{api.ErrNone, always(!isOpen)},
		{api.ErrState, always(d.Pilot != x.By)},
	}
	switch x.first {
	case "task":
		return append(reasons,
			reason{api.ErrBreak, always(!m.works())},
			reason{api.ErrClash, func() bool {
				plan := m.permits()[d.Permit].Plan
				return len(d.Tasks) == len(plan) || plan[len(d.Tasks)] != x.number(0)
			}})
	case "handover":
		return append(reasons,
			reason{api.ErrMissing, always(m.role(x.words[0]) < 0)},
			reason{api.ErrAllowed, always(m.role(x.words[0]) < api.ShipPilot)},
			reason{api.ErrDouble, always(x.words[0] == d.Pilot)})
	}
	return reasons
}

func (m model) partReasons(x made) []reason {
	part := slices.Index(m.net.Bus.Parts, x.words[0])
	hasFailed := slices.Contains(m.failed(), part)
	reasons := []reason{{api.ErrMissing, always(part < 0)}}
	if x.first == "fault" {
		return append(reasons, reason{api.ErrDouble, always(hasFailed)})
	}
	return append(reasons, reason{api.ErrState, always(!hasFailed)})
}

func (m model) sampleReasons(x made) []reason {
	exists := func(tag string) func() bool { return always(m.sample(tag).Tag == tag) }
	isFull := always(len(m.samples()) >= 12)
	if x.first == "sample" {
		_, isOpen := m.open()
		return []reason{
			{api.ErrName, always(!isName(x.words[0]))},
			{api.ErrExists, exists(x.words[0])},
			{api.ErrNone, always(!isOpen)},
			{api.ErrRange, always(x.number(1) < 1 || x.number(1) > 1000000)},
			{api.ErrName, always(!isName(x.words[2]))},
			{api.ErrFull, isFull},
		}
	}
	s := m.sample(x.words[0])
	reasons := []reason{
		{api.ErrMissing, always(s.Tag != x.words[0])},
		{api.ErrState, func() bool { return holderOf(s) != x.By }},
	}
	switch x.first {
	case "split":
		return append(reasons,
			reason{api.ErrName, always(!isName(x.words[2]))},
			reason{api.ErrExists, exists(x.words[2])},
			reason{api.ErrRange, always(x.number(1) < 1 || x.number(1) >= s.Amount)},
			reason{api.ErrFull, isFull})
	case "use":
		return append(reasons, reason{api.ErrRange, always(x.number(1) < 1 || x.number(1) > s.Amount)})
	case "transfer":
		return append(reasons,
			reason{api.ErrMissing, always(m.role(x.words[1]) < 0)},
			reason{api.ErrAllowed, always(m.role(x.words[1]) < api.ShipScientist)},
			reason{api.ErrDouble, func() bool { return holderOf(s) == x.words[1] }})
	}
	others := m.samples()
	return append(reasons,
		reason{api.ErrName, always(!isName(x.words[1]))},
		reason{api.ErrDouble, always(s.Lab != "")},
		reason{api.ErrExists, always(slices.ContainsFunc(others, func(o api.ShipSample) bool { return o.Lab == x.words[1] }))})
}

// writer is a net, a valid log, and the state after it.
type writer struct {
	api.ShipState
	net api.ShipNet
	log []api.ShipEntry
}

// randomEntry is one that may follow. Many of them have an error.
func randomEntry(r *rand.Rand, n api.ShipNet, l []api.ShipEntry) api.ShipEntry {
	w := writer{must(ship.StateOf(n, l)), n, l}
	last := 0
	if len(l) > 0 {
		last = l[len(l)-1].At
	}
	e := entryOf(last+r.IntN(3)*r.IntN(2), w.randomName(r), w.randomText(r))
	if x, ok := madeOf(0, e); ok && r.IntN(8) > 0 {
		e.By = w.fittingName(r, x)
	}
	switch r.IntN(70) {
	case 0:
		e.At = last - 1
	case 1:
		e.At = one(r, -1, 1000000000001)
	case 2:
		e.By = one(r, "", "zoe", "Sam", "sam ")
	case 3:
		e.Text += one(r, " ", "\n", "\x7f", "é", "\xff", " x", strings.Repeat("x", 400))
	case 4:
		e.Text = one(r, "", " ", "x", "Home", "homes", " home", "note", "sample", "sign", "move\t")
	}
	return e
}

func (w writer) randomName(r *rand.Rand) string { return one(r, w.net.People...).Name }

// open is the open dive, if there is one.
func (w writer) open() (api.ShipDive, bool) {
	if len(w.Dives) == 0 {
		return api.ShipDive{}, false
	}
	last := w.Dives[len(w.Dives)-1]
	return last, last.Open
}

// sample is the one with a tag, if there is one.
func (w writer) sample(tag string) (api.ShipSample, bool) {
	for _, s := range w.Samples {
		if s.Tag == tag {
			return s, true
		}
	}
	return api.ShipSample{}, false
}

// fittingName is somebody who often may make an entry.
func (w writer) fittingName(r *rand.Rand, x made) string {
	if d, isOpen := w.open(); isOpen && slices.Contains([]string{"move", "task", "handover", "home"}, x.first) {
		return d.Pilot
	}
	if len(x.words) > 0 && x.first != "sample" {
		if s, ok := w.sample(x.words[0]); ok {
			return holderOf(s)
		}
	}
	able := slices.DeleteFunc(slices.Clone(w.net.People), func(p api.ShipPerson) bool { return p.Role < forms[x.first].role })
	return one(r, able...).Name
}

// randomText is often one that is possible in this state.
func (w writer) randomText(r *rand.Rand) string {
	l := []string{"note " + one(r, "", "it is calm", "  "), "permit " + one(r, "0 1", "0 2", "0", "", "2", "0 0", "9", "100", "x", "0  1", "2 0"),
		"fault " + w.randomPart(r), "repair " + w.randomPart(r)}
	if r.IntN(3) == 0 {
		l = nil
	}
	number := strconv.Itoa(r.IntN(8))
	if permits := len(w.Permits); permits > 0 && r.IntN(3) > 0 {
		number = strconv.Itoa(1 + r.IntN(permits))
	}
	l = append(l, "sign "+number, "begin "+number)
	if d, isOpen := w.open(); isOpen || r.IntN(20) == 0 {
		l = append(l, "move "+randomMove(r), "task "+w.randomTask(r, d), "handover "+w.randomHolder(r), "sample "+w.randomTag(r)+" "+randomAmount(r, 100)+" "+one(r, "cold", "4", "b"))
		if r.IntN(6) == 0 {
			l = append(l, "home")
		}
	}
	if len(w.Samples) > 0 || r.IntN(20) == 0 {
		tag := w.randomTag(r)
		s, _ := w.sample(tag)
		l = append(l, "split "+tag+" "+randomAmount(r, s.Amount)+" "+w.randomTag(r), "use "+tag+" "+randomAmount(r, s.Amount), "transfer "+tag+" "+w.randomHolder(r),
			"label "+tag+" "+one(r, "a", "b", "lab-0123456789", "4"))
	}
	return one(r, l...)
}

func (w writer) randomPart(r *rand.Rand) string {
	return one(r, append(slices.Clone(w.net.Bus.Parts), "Main")...)
}

func (w writer) randomHolder(r *rand.Rand) string {
	return one(r, w.randomName(r), w.randomName(r), w.randomName(r), "zoe")
}

// randomTag is a new one, or often that of a sample.
func (w writer) randomTag(r *rand.Rand) string {
	if len(w.Samples) > 0 && r.IntN(2) == 0 {
		return one(r, w.Samples...).Tag
	}
	return one(r, "vial"+strconv.Itoa(len(w.log)), "w", "1", "abcdefghijklm")
}

// randomTask is often the next one of the plan.
func (w writer) randomTask(r *rand.Rand, d api.ShipDive) string {
	if d.Open && r.IntN(4) > 0 {
		if left := w.Permits[d.Permit].Plan[len(d.Tasks):]; len(left) > 0 {
			return strconv.Itoa(left[0])
		}
	}
	return strconv.Itoa(r.IntN(4))
}

// randomAmount is often about a number.
func randomAmount(r *rand.Rand, most int) string {
	if r.IntN(8) > 0 {
		return strconv.Itoa(one(r, 1, 1, 2, most/2, most-1, most, most+1))
	}
	return one(r, "0", "1000000", "1000001", "9999999", "10000000", "01", "-1")
}

// randomMove is the string of a step, seldom a malformed one.
func randomMove(r *rand.Rand) string {
	s := api.FixStep{Move: api.FixMove{Ticks: r.IntN(3), Speed: boxOf(-r.IntN(2), r.IntN(2), -r.IntN(2), r.IntN(2), 0, r.IntN(2))}}
	for range r.IntN(3) {
		lo := r.IntN(3)
		s.Vote.Readings = append(s.Vote.Readings, api.FixReading{Kind: r.IntN(2), Index: r.IntN(2) * r.IntN(2), Value: spanOf(lo, lo+r.IntN(3))})
	}
	s.Vote.Wrong = r.IntN(len(s.Vote.Readings) + 1)
	written := fix.FormatStep(s)
	switch r.IntN(12) {
	case 0:
		return one(r, "", "1", "x/0", "1 0 0 0 0 0 0", written+";")
	case 1:
		return one(r, "1001 0 0 0 0 0 0/0", "1 0 101 0 0 0 0/0", "1 1 0 0 0 0 0/0", "1 0 0 0 0 0 0/1", "1 100 100 0 0 0 0/0")
	case 2:
		return "0 0 0 0 0 0 0/0;" + one(r, "range 1 0 1", "axis 3 0 1", "axis 0 2 1", "axis 0 0 30001", "axis 0 9 9")
	}
	return written
}

// randomLog is a valid one, after which so many entries were tried.
func randomLog(r *rand.Rand, n api.ShipNet, tries int) []api.ShipEntry {
	return longerLog(r, n, someLog(r, n), tries)
}

// longerLog is a valid log that begins with another one.
func longerLog(r *rand.Rand, n api.ShipNet, l []api.ShipEntry, tries int) []api.ShipEntry {
	for range tries {
		if longer, e := ship.Appended(n, l, randomEntry(r, n, l)); e == api.OK {
			l = longer
		}
	}
	return l
}

// someLog is a valid one of few.
func someLog(r *rand.Rand, n api.ShipNet) []api.ShipEntry {
	l := one(r, nil, nil, readyLog(), openLog(), splitLog(), fullSamples(), divesLog(1), divesLog(6))
	if _, e := ship.CheckLog(n, l); e != api.OK {
		return nil
	}
	return l
}

// randomNet is one of few nets.
func randomNet(r *rand.Rand) api.ShipNet {
	n := one(r, greatNet(), greatNet(), greatNet(), exampleNet())
	switch r.IntN(20) {
	case 0:
		n.Bus.Modes = nil
	case 1:
		n.Works = 6
	case 2:
		n.Begin.Power = 0
	}
	return n
}

// tableErrors are, for each first word, the errors that the table names. It leaves out those that do not occur:
// a seventh dive has no permit, and the steps of a plan that was checked have no error.
func tableErrors() map[string][]api.Errno {
	return map[string][]api.Errno{
		"note":     {},
		"permit":   {api.ErrSyntax, api.ErrMissing, api.ErrDouble, api.ErrOrder, api.ErrFull},
		"sign":     {api.ErrMissing, api.ErrState, api.ErrDouble},
		"begin":    {api.ErrMissing, api.ErrState, api.ErrRefused, api.ErrBusy, api.ErrBreak},
		"move":     {api.ErrNone, api.ErrState, api.ErrSyntax, api.ErrRange, api.ErrOrder, api.ErrMissing},
		"task":     {api.ErrNone, api.ErrState, api.ErrBreak, api.ErrClash},
		"handover": {api.ErrNone, api.ErrState, api.ErrMissing, api.ErrAllowed, api.ErrDouble},
		"home":     {api.ErrNone, api.ErrState},
		"fault":    {api.ErrMissing, api.ErrDouble},
		"repair":   {api.ErrMissing, api.ErrState},
		"sample":   {api.ErrName, api.ErrExists, api.ErrNone, api.ErrRange, api.ErrFull},
		"split":    {api.ErrMissing, api.ErrState, api.ErrName, api.ErrExists, api.ErrRange, api.ErrFull},
		"use":      {api.ErrMissing, api.ErrState, api.ErrRange},
		"transfer": {api.ErrMissing, api.ErrState, api.ErrAllowed, api.ErrDouble},
		"label":    {api.ErrMissing, api.ErrState, api.ErrName, api.ErrDouble, api.ErrExists},
	}
}

// TestLogsByTheirDefinition compares errors and states with those of the model.
func TestLogsByTheirDefinition(t *testing.T) {
	r := newRandom()
	seen := map[string]int{}
	for range 120 {
		m := model{net: randomNet(r)}
		m.log = someLog(r, m.net)
		for range 100 {
			e := randomEntry(r, m.net, m.log)
			err := m.errorOf(e)
			seen[fmt.Sprint(firstOf(e), " ", err)]++
			longer := append(slices.Clone(m.log), e)
			index := 0
			if err != api.OK {
				index = len(m.log)
			}
			if err == api.ErrLarge && index == 60 {
				index = 0
			}
			i, got := ship.CheckLog(m.net, longer)
			want(t, fmt.Sprint("CheckLog of ", longer), i, got, index, err)
			if err != api.OK {
				continue
			}
			m.log = longer
			s, got := ship.StateOf(m.net, m.log)
			want(t, fmt.Sprint("StateOf ", m.log), s, got, m.state(), api.OK)
		}
	}
	for first, errors := range tableErrors() {
		for _, err := range append(errors, api.OK) {
			if what := fmt.Sprint(first, " ", err); seen[what] == 0 {
				t.Errorf("nothing with %s is tested", what)
			}
		}
	}
}
