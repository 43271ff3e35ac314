package ship_test

import (
	"fmt"
	"math/rand/v2"
	"slices"
	"strconv"
	"strings"
	"testing"

	"moonpool/api"
	"moonpool/bus"
	"moonpool/dive"
	"moonpool/fix"
	"moonpool/ship"
)

// want compares a result and an error. Results are compared as they are printed: a nil slice and an empty one are the same result.
func want(t *testing.T, what string, got any, e api.Errno, wanted any, err api.Errno) {
	t.Helper()
	if fmt.Sprint(got) != fmt.Sprint(wanted) || e != err {
		t.Errorf("%s: %v, error %d, want %v, error %d", what, got, e, wanted, err)
	}
}

func spanOf(lo, hi int) api.Range { return api.Range{Lo: lo, Hi: hi} }

// boxOf is the ends of X, Y and Z.
func boxOf(n ...int) api.FixBox {
	return api.FixBox{X: spanOf(n[0], n[1]), Y: spanOf(n[2], n[3]), Z: spanOf(n[4], n[5])}
}

func personOf(name string, role int) api.ShipPerson { return api.ShipPerson{Name: name, Role: role} }

func entryOf(at int, by, text string) api.ShipEntry {
	return api.ShipEntry{At: at, By: by, Text: text}
}

func linkOf(at int, from, to string) api.ShipLink { return api.ShipLink{At: at, From: from, To: to} }

func lookOf(dive, at int) api.ShipLook { return api.ShipLook{Dive: dive, At: at} }

// must is a value that was parsed.
func must[T any](x T, e api.Errno) T {
	if e != api.OK {
		panic(fmt.Sprint("error ", e))
	}
	return x
}

// logOf is the log whose entries are written as At, By and Text.
func logOf(entries ...string) []api.ShipEntry {
	var l []api.ShipEntry
	for _, written := range entries {
		part := strings.SplitN(written, " ", 3)
		at, err := strconv.Atoi(part[0])
		if err != nil {
			panic(err)
		}
		l = append(l, entryOf(at, part[1], part[2]))
	}
	return l
}

// more is a log with further entries.
func more(l []api.ShipEntry, entries ...string) []api.ShipEntry {
	return slices.Concat(l, logOf(entries...))
}

// exampleNet is the net n of the chapter's examples, exampleLog the log l.
func exampleNet() api.ShipNet {
	return api.ShipNet{
		People: []api.ShipPerson{
			personOf("sam", api.ShipScientist), personOf("pia", api.ShipPilot), personOf("pim", api.ShipPilot),
			personOf("kim", api.ShipChief), personOf("gus", api.ShipGuest),
		},
		Fix: api.FixNet{World: boxOf(-10, 10, -10, 10, 0, 20)},
		Bus: must(bus.ParseNet("main,gyro/power=0;heading=1/full=0+1;drift=0")),
		Site: api.DiveSite{
			Tasks:  must(dive.ParseTasks("core 0 10 5 1 10 0 100;look 0 5 5 0 1 0 100 0")),
			Travel: [][]int{{0}}, Home: []int{10}, Swim: 1, Reserve: 10, End: 200,
		},
		Begin: must(dive.ParseState("0 0 100 2/")),
	}
}

func exampleLog() []api.ShipEntry {
	return logOf("1 kim permit 0 1", "2 pia sign 1", "3 pim sign 1", "10 pia begin 1", "11 pia move 1 0 2 0 0 0 5/0",
		"20 pia task 0", "21 sam sample s1 100 cold", "30 pia home")
}

// exampleJournal is its journal.
const exampleJournal = "1 kim permit 0 1 984564\n2 pia sign 1 962077\n3 pim sign 1 814090\n10 pia begin 1 16086\n" +
	"11 pia move 1 0 2 0 0 0 5/0 398835\n20 pia task 0 170736\n21 sam sample s1 100 cold 685802\n30 pia home 123127\n"

// laterLog is the log with the entries of example 3.
func laterLog() []api.ShipEntry {
	return more(exampleLog(), "40 sam split s1 30 s2", "41 sam use s2 10", "42 sam transfer s1 pia")
}

// diveBox is the box of the example's dive after its move.
func diveBox() api.FixBox { return boxOf(0, 2, 0, 0, 0, 5) }

// changed is the example's net with a change.
func changed(change func(n *api.ShipNet)) api.ShipNet {
	n := exampleNet()
	change(&n)
	return n
}

// greatNet is a net with as many persons as there may be, a beacon, more modes and more tasks.
func greatNet() api.ShipNet {
	return api.ShipNet{
		People: []api.ShipPerson{
			personOf("sam", api.ShipScientist), personOf("pia", api.ShipPilot), personOf("pim", api.ShipPilot), personOf("kim", api.ShipChief),
			personOf("gus", api.ShipGuest), personOf("sue", api.ShipScientist), personOf("tom", api.ShipChief), personOf("pat", api.ShipPilot),
		},
		Fix:   api.FixNet{World: boxOf(-4, 4, -3, 3, 0, 5), Beacons: []api.FixBeacon{{Name: "b", Place: api.FixPlace{X: 3}}}},
		Start: boxOf(0, 1, 0, 0, 0, 0),
		Bus:   must(bus.ParseNet("main,spare,gyro,dvl/power=0,1;heading=0+2,1+2;speed=3/full=0+1+2;slow=0+1;drift=0")),
		Works: 1,
		Site: api.DiveSite{
			Tasks:  must(dive.ParseTasks("valve 1 20 30 4 50 0 300;probe 2 10 10 1 30 80 90;close 1 10 20 2 40 0 400 0")),
			Travel: [][]int{{0, 10, 20}, {10, 0, 10}, {20, 10, 0}},
			Home:   []int{30, 40, 50},
			Tides:  []api.DiveTide{{Ticks: spanOf(100, 199), Slow: 5}},
			Idle:   1, Swim: 2, Reserve: 20, End: 400,
		},
		Begin: must(dive.ParseState("0 0 300 7/")),
	}
}

// readyLog has a permit that two pilots have signed, openLog a dive that one of them has begun by it.
func readyLog() []api.ShipEntry { return logOf("1 kim permit 0 1", "2 pia sign 1", "2 pim sign 1") }

func openLog() []api.ShipEntry { return more(readyLog(), "3 pia begin 1") }

// sampleLog has a sample in a dive, splitLog another one that was split from it.
func sampleLog() []api.ShipEntry { return more(openLog(), "5 sam sample s 100 cold") }

func splitLog() []api.ShipEntry { return more(sampleLog(), "6 sam split s 30 t") }

// divesLog has six permits, and so many dives that ended.
func divesLog(dives int) []api.ShipEntry {
	l := slices.Repeat(logOf("1 kim permit "), 6)
	for i := range dives {
		for _, text := range []string{"1 pia sign ", "1 pim sign ", "1 pia begin "} {
			l = more(l, text+strconv.Itoa(i+1))
		}
		l = more(l, "1 pia home")
	}
	return l
}

// fullSamples are twelve samples of a dive.
func fullSamples() []api.ShipEntry {
	l := sampleLog()
	for i := range 11 {
		l = more(l, fmt.Sprintf("5 sam split s %d s%d", i+1, i))
	}
	return l
}

// entered is an entry after a log, and the error that it has.
type entered struct {
	before []api.ShipEntry
	entry  string
	err    api.Errno
}

// wantEntered enters entries after their logs, with each function that does so. Those after an error do not count.
func wantEntered(t *testing.T, n api.ShipNet, cases []entered) {
	t.Helper()
	for _, c := range cases {
		l := more(c.before, c.entry)
		e := l[len(l)-1]
		index, wanted := 0, l
		if c.err != api.OK {
			index, wanted = len(c.before), nil
			l = append(l, entryOf(-1, "nobody", ""))
		}
		i, err := ship.CheckLog(n, l)
		want(t, fmt.Sprint("CheckLog of ", l), i, err, index, c.err)
		appended, err := ship.Appended(n, c.before, e)
		want(t, fmt.Sprint("Appended ", c.before, c.entry), appended, err, wanted, c.err)
		d := deskOf(t, n, c.before)
		want(t, fmt.Sprint("Enter after ", c.before, c.entry), "", d.Enter(e.At, e.By, e.Text), "", c.err)
		if c.err != api.OK {
			wanted = c.before
		}
		want(t, fmt.Sprint("Log after ", c.before, c.entry), d.Log(), api.OK, wanted, api.OK)
	}
}

// deskOf is a desk whose log was entered entry by entry.
func deskOf(t *testing.T, n api.ShipNet, l []api.ShipEntry) *ship.Desk {
	t.Helper()
	d, e := ship.New(n)
	if e != api.OK {
		t.Fatalf("New of %v: error %d", n, e)
	}
	for _, x := range l {
		if e := d.Enter(x.At, x.By, x.Text); e != api.OK {
			t.Fatalf("Enter of %v after %v: error %d", x, d.Log(), e)
		}
	}
	return d
}

// stateOf is the state after a valid log.
func stateOf(t *testing.T, n api.ShipNet, l []api.ShipEntry) api.ShipState {
	t.Helper()
	s, e := ship.StateOf(n, l)
	if e != api.OK {
		t.Fatalf("StateOf of %v, %v: error %d", n, l, e)
	}
	return s
}

func newRandom() *rand.Rand { return rand.New(rand.NewPCG(10, 10)) }

// one is a random item.
func one[T any](r *rand.Rand, l ...T) T { return l[r.IntN(len(l))] }

// isIn is whether a position is in a box.
func isIn(p api.FixPlace, b api.FixBox) bool {
	has := func(r api.Range, n int) bool { return r.Lo <= n && n <= r.Hi }
	return has(b.X, p.X) && has(b.Y, p.Y) && has(b.Z, p.Z)
}

// stepsOf are the steps of the moves of a log.
func stepsOf(l []api.ShipEntry) []api.FixStep {
	var steps []api.FixStep
	for _, e := range l {
		if rest, ok := strings.CutPrefix(e.Text, "move "); ok {
			steps = append(steps, must(fix.ParseStep(rest)))
		}
	}
	return steps
}
