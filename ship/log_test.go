package ship_test

import (
	"fmt"
	"math"
	"slices"
	"strconv"
	"strings"
	"testing"

	"moonpool/api"
	"moonpool/ship"
)

// P10.2, P10.3, P10.9

func TestEmptyLog(t *testing.T) {
	i, e := ship.CheckLog(exampleNet(), nil)
	want(t, "CheckLog of nothing", i, e, 0, api.OK)
	s, e := ship.StateOf(exampleNet(), []api.ShipEntry{})
	want(t, "StateOf nothing", s, e, api.ShipState{}, api.OK)
	s, e = ship.StateAt(exampleNet(), nil, 0)
	want(t, "StateAt of nothing", s, e, api.ShipState{}, api.OK)
}

// TestEntries is for the errors of an entry, whatever its text does. It has all errors that are listed later, too.
func TestEntries(t *testing.T) {
	notes := slices.Repeat(logOf("5 gus note "), 59)
	long := strings.Repeat("x", 401)
	wantEntered(t, exampleNet(), []entered{
		{nil, "0 gus note ", api.OK},
		{nil, "1000000000000 gus note ", api.OK},
		{notes, "5 gus note x", api.OK},
		{notes[1:], "6 gus note", api.ErrSyntax},
		{notes[:3], "5 gus note " + strings.Repeat("~", 395), api.OK},
		{nil, "-1 zoe x\n" + long, api.ErrMissing},
		{nil, "-1 Pia x\n" + long, api.ErrMissing},
		{nil, "-1  x\n" + long, api.ErrMissing},
		{nil, "-1 gus x\n" + long, api.ErrRange},
		{notes[:1], "1000000000001 gus x\n" + long, api.ErrRange},
		{notes[:1], "-1 gus x\n" + long, api.ErrRange},
		{notes[:3], "4 gus x\n" + long, api.ErrOrder},
		{notes[:3], "0 gus note ", api.ErrOrder},
		{notes[:3], "5 gus permit\n" + long, api.ErrLarge},
		{notes[:3], "5 gus note " + strings.Repeat("~", 396), api.ErrLarge},
		{notes[:3], "5 gus x\n", api.ErrForm},
		{notes[:3], "5 gus note \x7f", api.ErrForm},
		{notes[:3], "5 gus note \x1f", api.ErrForm},
		{notes[:3], "5 gus note é", api.ErrForm},
		{notes[:3], "5 gus note \xff", api.ErrForm},
		{notes[:3], "5 gus note \x00", api.ErrForm},
		{notes[:3], "5 gus note \t", api.ErrForm},
	})
	full := append(notes, notes[0])
	_, e := ship.CheckLog(exampleNet(), full)
	want(t, "CheckLog of 60 notes", "", e, "", api.OK)
	full = append(full, entryOf(-1, "", ""))
	i, e := ship.CheckLog(exampleNet(), full)
	want(t, "CheckLog of 61 entries", i, e, 0, api.ErrLarge)
	full[0].By = "zoe"
	i, e = ship.CheckLog(exampleNet(), full)
	want(t, "CheckLog of 61 entries with errors", i, e, 0, api.ErrLarge)
	l, e := ship.Appended(exampleNet(), full[1:], entryOf(5, "gus", "note "))
	want(t, "Appended to 60 entries with an error", l, e, none, api.ErrMissing)
	l, e = ship.Appended(exampleNet(), full[1:60], entryOf(5, "gus", "note "))
	want(t, "Appended to 59 entries", len(l), e, 60, api.OK)
	l, e = ship.Appended(exampleNet(), l, entryOf(-1, "", ""))
	want(t, "Appended to 60 entries", len(l), e, 0, api.ErrLarge)
}

// TestForms is for all texts that have not the form of their row, by persons who may not make them, and by a chief who may.
func TestForms(t *testing.T) {
	var cases []entered
	add := func(text string, role int) {
		for _, p := range exampleNet().People {
			err := api.ErrSyntax
			if p.Role < role {
				err = api.ErrAllowed
			}
			cases = append(cases, entered{sampleLog(), "9 " + p.Name + " " + text, err})
		}
	}
	for first, f := range forms {
		for _, text := range malformed(first) {
			add(text, f.role)
		}
	}
	for _, text := range []string{"", " ", " note x", "Note x", "notes x", "not x", "x", "go home", "HOME", "-"} {
		add(text, api.ShipGuest)
	}
	wantEntered(t, exampleNet(), cases)
}

// malformed are texts with a first word which have not the form of its row.
func malformed(first string) []string {
	ends := map[string][]string{
		"note": {""}, "permit": {""}, "move": {""},
		"sign":     badNumbers(" ", ""),
		"begin":    badNumbers(" ", ""),
		"task":     badNumbers(" ", ""),
		"handover": badWords(" ", ""),
		"fault":    badWords(" ", ""),
		"repair":   badWords(" ", ""),
		"home":     {" ", " x", "  "},
		"sample":   slices.Concat(badWords(" ", " 10 cold"), badNumbers(" x ", " cold"), badWords(" x 10 ", ""), []string{" x", " x 10"}),
		"split":    slices.Concat(badWords(" ", " 10 x"), badNumbers(" s ", " x"), badWords(" s 10 ", ""), []string{" s", " s 10"}),
		"use":      slices.Concat(badWords(" ", " 10"), badNumbers(" s ", ""), []string{" s"}),
		"transfer": slices.Concat(badWords(" ", " pia"), badWords(" s ", ""), []string{" s"}),
		"label":    slices.Concat(badWords(" ", " x"), badWords(" s ", ""), []string{" s"}),
	}
	var l []string
	for _, end := range ends[first] {
		l = append(l, first+end)
	}
	return l
}

// badNumbers are no number between a beginning and an end.
func badNumbers(begin, end string) []string {
	l := badWords(begin, end)
	for _, number := range []string{"x", "-1", "-0", "+1", "01", "00", "10000000", "00000001", "1.0", "1x", "0x1"} {
		l = append(l, begin+number+end)
	}
	return l
}

// badWords are no word, or two, between a beginning and an end.
func badWords(begin, end string) []string {
	l := []string{begin + end, begin + " 1" + end, begin + "1 " + end, begin + "1 x 1" + end}
	if end == "" {
		l = append(l, strings.TrimSuffix(begin, " "), begin+"1 1")
	}
	return l
}

// TestNumbersOfSevenDigits is whether they are read.
func TestNumbersOfSevenDigits(t *testing.T) {
	wantEntered(t, exampleNet(), []entered{
		{openLog(), "5 pia sign 9999999", api.ErrMissing},
		{openLog(), "5 pia sign 0", api.ErrMissing},
		{openLog(), "5 pia begin 9999999", api.ErrMissing},
		{openLog(), "5 pia begin 0", api.ErrMissing},
		{openLog(), "5 pia task 9999999", api.ErrClash},
		{openLog(), "5 sam sample s 9999999 cold", api.ErrRange},
		{openLog(), "5 sam sample s 1000000 cold", api.OK},
		{sampleLog(), "5 sam use s 9999999", api.ErrRange},
		{sampleLog(), "5 sam use s 0", api.ErrRange},
		{sampleLog(), "5 sam split s 9999999 t", api.ErrRange},
	})
}

// TestRoles is whether each text may be made by everybody with its role, or a greater one.
func TestRoles(t *testing.T) {
	base := func(role int, entries ...string) []api.ShipEntry {
		by := []string{"gus", "sam", "pia", "kim"}[role]
		l := logOf("1 kim permit 0 1", "1 pim sign 1", "1 tom sign 1")
		for _, e := range entries {
			l = more(l, strings.ReplaceAll(e, "*", by))
		}
		return l
	}
	n := changed(func(n *api.ShipNet) { n.People = append(n.People, personOf("tom", api.ShipPilot)) })
	for role, by := range []string{"gus", "sam", "pia", "kim"} {
		begun := base(role, "2 pim begin 1")
		piloted, held := begun, begun
		if role >= api.ShipPilot {
			piloted = append(piloted, entryOf(2, "pim", "handover "+by))
		}
		held = more(held, "2 pim sample s 9 cold")
		if role >= api.ShipScientist {
			held = append(held, entryOf(2, "pim", "transfer s "+by))
		}
		var cases []entered
		add := func(least int, before []api.ShipEntry, text string) {
			err := api.OK
			if role < least {
				err = api.ErrAllowed
			}
			cases = append(cases, entered{before, "3 " + by + " " + text, err})
		}
		add(api.ShipGuest, begun, "note x")
		add(api.ShipScientist, begun, "sample x 9 cold")
		add(api.ShipScientist, held, "split s 1 x")
		add(api.ShipScientist, held, "use s 1")
		add(api.ShipScientist, held, "transfer s tom")
		add(api.ShipScientist, held, "label s x")
		add(api.ShipPilot, begun, "sign 1")
		cases[len(cases)-1].before = base(role)
		add(api.ShipPilot, piloted, "move 0 0 0 0 0 0 0/0")
		add(api.ShipPilot, piloted, "task 0")
		add(api.ShipPilot, piloted, "handover tom")
		add(api.ShipPilot, piloted, "home")
		add(api.ShipPilot, begun, "fault gyro")
		add(api.ShipChief, begun, "permit ")
		add(api.ShipChief, append(slices.Clone(begun), entryOf(2, "pim", "fault gyro")), "repair gyro")
		signed := base(role)
		if role >= api.ShipPilot {
			signed = base(role, "1 * sign 1")
		}
		add(api.ShipPilot, signed, "begin 1")
		wantEntered(t, n, cases)
	}
}

// TestStateOfExample is for the state of the chapter's log, also before its later entries.
func TestStateOfExample(t *testing.T) {
	begin := api.DiveState{Power: 100, Oil: 2}
	after := api.DiveState{At: 10, Power: 95, Oil: 1, Done: []int{0}}
	signed := api.ShipPermit{Plan: []int{0, 1}, Signed: []string{"pia", "pim"}}
	used := signed
	used.Used = true
	sample := api.ShipSample{Tag: "s1", Preservative: "cold", At: 21, Box: diveBox(), Amount: 100, Taken: 100, Chain: []api.ShipLink{linkOf(21, "", "sam")}}
	dive := func(box api.FixBox, s api.DiveState, open bool, tasks ...int) []api.ShipDive {
		return []api.ShipDive{{Pilot: "pia", State: s, Box: box, Tasks: tasks, Open: open}}
	}
	for tick, s := range map[int]api.ShipState{
		0:             {},
		1:             {Permits: []api.ShipPermit{{Plan: []int{0, 1}}}},
		2:             {Permits: []api.ShipPermit{{Plan: []int{0, 1}, Signed: []string{"pia"}}}},
		9:             {Permits: []api.ShipPermit{signed}},
		10:            {Permits: []api.ShipPermit{used}, Dives: dive(api.FixBox{}, begin, true)},
		11:            {Permits: []api.ShipPermit{used}, Dives: dive(diveBox(), begin, true)},
		20:            {Permits: []api.ShipPermit{used}, Dives: dive(diveBox(), after, true, 0)},
		29:            {Permits: []api.ShipPermit{used}, Dives: dive(diveBox(), after, true, 0), Samples: []api.ShipSample{sample}},
		30:            {Permits: []api.ShipPermit{used}, Dives: dive(diveBox(), after, false, 0), Samples: []api.ShipSample{sample}},
		1000000000000: {Permits: []api.ShipPermit{used}, Dives: dive(diveBox(), after, false, 0), Samples: []api.ShipSample{sample}},
	} {
		got, e := ship.StateAt(exampleNet(), exampleLog(), tick)
		want(t, fmt.Sprint("StateAt ", tick), got, e, s, api.OK)
	}
	for _, tick := range []int{-1, 1000000000001, math.MinInt, math.MaxInt} {
		got, e := ship.StateAt(exampleNet(), exampleLog(), tick)
		want(t, fmt.Sprint("StateAt ", tick), got, e, api.ShipState{}, api.ErrRange)
	}
}

// TestSeveralEntriesOfOneTick is whether the state at a tick is that after all of them.
func TestSeveralEntriesOfOneTick(t *testing.T) {
	l := logOf("5 kim permit ", "5 kim permit 0", "7 kim permit 0 1", "7 pia fault gyro", "7 kim repair gyro")
	for tick, count := range []int{0, 0, 0, 0, 0, 2, 2, 3, 3} {
		s, e := ship.StateAt(exampleNet(), l, tick)
		want(t, fmt.Sprint("permits at ", tick), len(s.Permits), e, count, api.OK)
		want(t, fmt.Sprint("failed parts at ", tick), s.Failed, e, none, api.OK)
	}
}

// none is a list without numbers.
var none []int

// TestEveryBeginning is whether all beginnings of logs are valid, and whether the log is built and taken back entry by entry.
func TestEveryBeginning(t *testing.T) {
	r := newRandom()
	for range 30 {
		n := randomNet(r)
		l := randomLog(r, n, 40)
		d := deskOf(t, n, nil)
		var built []api.ShipEntry
		for i, x := range l {
			k, e := ship.CheckLog(n, l[:i])
			want(t, fmt.Sprint("CheckLog of ", l[:i]), k, e, 0, api.OK)
			s, e := ship.StateOf(n, l[:i])
			at, atError := ship.StateAt(n, l[:i], x.At)
			want(t, fmt.Sprint("StateAt the last tick of ", l[:i]), at, atError, s, e)
			built, e = ship.Appended(n, built, x)
			want(t, fmt.Sprint("Appended ", x), built, e, l[:i+1], api.OK)
			e = d.Enter(x.At, x.By, x.Text)
			want(t, fmt.Sprint("Log after Enter of ", x), d.Log(), e, l[:i+1], api.OK)
		}
		for i := range slices.Backward(l) {
			e := d.Undo()
			want(t, "Log after Undo of "+strconv.Itoa(i), d.Log(), e, l[:i], api.OK)
		}
	}
}
