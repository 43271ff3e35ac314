package ship_test

import (
	"fmt"
	"testing"

	"moonpool/api"
	"moonpool/ship"
)

// P10.8, P10.9, R3, R4, R5

func TestDesk(t *testing.T) {
	d := deskOf(t, exampleNet(), nil)
	want(t, "Log of a new desk", d.Log(), api.OK, none, api.OK)
	want(t, "Journal of a new desk", d.Journal(), api.OK, "", api.OK)
	want(t, "Undo of nothing", "", d.Undo(), "", api.ErrNone)
	for i, x := range exampleLog() {
		want(t, fmt.Sprint("Enter ", x), "", d.Enter(x.At, x.By, x.Text), "", api.OK)
		want(t, "Log", d.Log(), api.OK, exampleLog()[:i+1], api.OK)
		want(t, "Journal", d.Journal(), api.OK, journalOf(exampleLog()[:i+1]), api.OK)
		answer, e := d.Answer("count")
		want(t, "count", answer, e, i+1, api.OK)
	}
	want(t, "Journal", d.Journal(), api.OK, exampleJournal, api.OK)
	want(t, "Enter twice", "", d.Enter(30, "pia", "home"), "", api.ErrNone)
	want(t, "Enter by nobody", "", d.Enter(-1, "zoe", ""), "", api.ErrMissing)
	want(t, "Log after errors", d.Log(), api.OK, exampleLog(), api.OK)
	want(t, "Undo", "", d.Undo(), "", api.OK)
	want(t, "Log after Undo", d.Log(), api.OK, exampleLog()[:7], api.OK)
	want(t, "Enter something else", "", d.Enter(21, "pia", "task 1"), "", api.OK)
	want(t, "Log after Enter", d.Log(), api.OK, more(exampleLog()[:7], "21 pia task 1"), api.OK)
	answer, e := d.Answer("dive 1")
	want(t, "dive 1", answer, e, "open pia 0 2 0 0 0 5", api.OK)
}

func TestNewOfBadNets(t *testing.T) {
	for _, c := range badNets() {
		if d, e := ship.New(c.net); d != nil || e != c.err {
			t.Errorf("New: %s: %v, error %d, want the error %d", c.name, d, e, c.err)
		}
	}
}

func TestNoDesk(t *testing.T) {
	var d *ship.Desk
	for _, x := range []api.ShipEntry{exampleLog()[0], {}, entryOf(-1, "", "x")} {
		want(t, "Enter", "", d.Enter(x.At, x.By, x.Text), "", api.ErrNil)
	}
	want(t, "Undo", "", d.Undo(), "", api.ErrNil)
	for _, question := range []string{"count", "", "x"} {
		answer, e := d.Answer(question)
		want(t, "Answer", answer, e, "", api.ErrNil)
	}
	want(t, "Log", d.Log(), api.OK, none, api.OK)
	want(t, "Journal", d.Journal(), api.OK, "", api.OK)
}

// TestEmptyDesk is for a desk that New did not make: its net has no persons.
func TestEmptyDesk(t *testing.T) {
	var d ship.Desk
	want(t, "Enter", "", d.Enter(0, "gus", "note "), "", api.ErrShape)
	want(t, "Undo", "", d.Undo(), "", api.ErrNone)
	answer, e := d.Answer("count")
	want(t, "Answer", answer, e, "", api.ErrShape)
	want(t, "Log", d.Log(), api.OK, none, api.OK)
	want(t, "Journal", d.Journal(), api.OK, "", api.OK)
}

// TestDeskKeepsItsNet is whether a desk goes on as before when the net that it was given is overwritten.
func TestDeskKeepsItsNet(t *testing.T) {
	n := greatNet()
	n.Begin.Done = []int{2}
	d := deskOf(t, n, nil)
	clearNet(n)
	for _, x := range more(openLog(), "4 pia move 1 0 1 0 0 0 0/0;range 0 2 3", "5 pia task 0", "6 pim fault dvl", "7 pia task 1", "8 sam sample s 9 cold", "9 pia home") {
		want(t, fmt.Sprint("Enter ", x), "", d.Enter(x.At, x.By, x.Text), "", api.OK)
	}
	for question, wanted := range map[string]string{"mode": "slow", "failed": "dvl", "dive 1": "home pia 0 1 0 0 0 0"} {
		answer, e := d.Answer(question)
		want(t, question, answer, e, wanted, api.OK)
	}
}

// TestDeskKeepsItsSite is whether the plans of permits are checked as before, too.
func TestDeskKeepsItsSite(t *testing.T) {
	for _, c := range []struct {
		change func(n *api.ShipNet)
		text   string
		err    api.Errno
	}{
		{func(n *api.ShipNet) { n.Site.Tasks[2].After = []int{1} }, "permit 1 2", api.OK},
		{func(n *api.ShipNet) { n.Site.Tasks[2].After = []int{1} }, "permit 0 2", api.ErrOrder},
		{func(n *api.ShipNet) { n.Begin.Power = 149 }, "permit 0", api.ErrRefused},
		{func(n *api.ShipNet) { n.Begin.Power = 150 }, "permit 0", api.OK},
		{func(n *api.ShipNet) { n.Begin.Power, n.Site.Tides[0].Ticks = 159, spanOf(30, 30) }, "permit 0", api.ErrRefused},
		{func(n *api.ShipNet) { n.Begin.Power, n.Site.Tides[0].Ticks = 160, spanOf(30, 30) }, "permit 0", api.OK},
		{func(n *api.ShipNet) { n.Begin.Power, n.Site.Travel[0][1] = 130, 0 }, "permit 0", api.OK},
		{func(n *api.ShipNet) { n.Begin.Power, n.Site.Travel[0][1] = 130, 1 }, "permit 0", api.ErrRefused},
		{func(n *api.ShipNet) { n.Begin.Done = []int{1} }, "permit 1", api.ErrDouble},
		{func(n *api.ShipNet) { n.Begin.Done = []int{1} }, "permit 0", api.OK},
	} {
		n := greatNet()
		c.change(&n)
		wantEntered(t, n, []entered{{nil, "1 kim " + c.text, c.err}})
		d := deskOf(t, n, nil)
		clearNet(n)
		want(t, "Enter "+c.text, "", d.Enter(1, "kim", c.text), "", c.err)
	}
}

// TestDesksAreApart is whether what one gives out, and what another one does, changes nothing.
func TestDesksAreApart(t *testing.T) {
	d := deskOf(t, exampleNet(), exampleLog())
	other := *d
	clearAll(d.Log())
	want(t, "Log", d.Log(), api.OK, exampleLog(), api.OK)
	d.Undo()
	d.Undo()
	want(t, "Enter", "", d.Enter(29, "pia", "task 1"), "", api.OK)
	want(t, "Log of a copy", other.Log(), api.OK, exampleLog(), api.OK)
	other.Undo()
	want(t, "Enter", "", other.Enter(30, "gus", "note "), "", api.OK)
	want(t, "Log", d.Log(), api.OK, more(exampleLog()[:6], "29 pia task 1"), api.OK)
	want(t, "Log of a copy", other.Log(), api.OK, more(exampleLog()[:7], "30 gus note "), api.OK)
}
