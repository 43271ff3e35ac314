package ship_test

import (
	"fmt"
	"math/rand/v2"
	"slices"
	"strings"
	"testing"

	"moonpool/api"
	"moonpool/ship"
)

// P10.5 (ReportOf), P10.13

func TestReportOfExamples(t *testing.T) {
	start := "/0 0 0 0 0 0/"
	again := more(divesLog(1), "2 pia sign 2", "2 pim sign 2", "3 pim begin 2", "4 sam sample a 9 cold", "4 sam sample b 100 cold", "4 sam sample c 10 dry")
	tasks := more(openLog(), "4 pia task 0", "5 pia task 1")
	for _, c := range []struct {
		name   string
		log    []api.ShipEntry
		report string
	}{
		{"nothing", nil, ""},
		{"the example", exampleLog(), "0/0 2 0 0 0 5/100"},
		{"the example, later", laterLog(), "0/0 2 0 0 0 5/100"},
		{"an open dive", exampleLog()[:7], ""},
		{"a dive without tasks and samples", divesLog(1), start},
		{"several dives", divesLog(3), start + ";" + start + ";" + start},
		{"an open dive after another one", again, start},
		{"a second dive with samples", more(again, "5 pim home"), start + ";" + start + "9 10 100"},
		{"a sample that was used up", more(again, "5 sam use b 100", "5 pim home"), start + ";" + start + "9 10 100"},
		{"a sample that was split", more(again, "5 sam split b 99 d", "5 pim home"), start + ";" + start + "9 10 100"},
		{"samples of the same amount", more(openLog(), "4 sam sample a 5 cold", "4 pim sample b 5 dry", "5 pia home"), start + "5 5"},
		{"all tasks", more(tasks, "6 pia home"), "0 1" + start},
	} {
		report, e := ship.ReportOf(exampleNet(), c.log)
		want(t, "ReportOf: "+c.name, report, e, c.report, api.OK)
	}
}

// renamed is a net and a log with other names of persons and tags.
func renamed(n api.ShipNet, l []api.ShipEntry) (api.ShipNet, []api.ShipEntry) {
	other := func(name string) string { return "X" + strings.ToUpper(name)[:min(len(name), 10)] + "-" }
	n.People, l = slices.Clone(n.People), slices.Clone(l)
	for i := range n.People {
		n.People[i].Name = other(n.People[i].Name)
	}
	for i, e := range l {
		l[i].By = other(e.By)
		words := strings.Split(e.Text, " ")
		for _, named := range map[string][]int{"handover": {1}, "sample": {1}, "split": {1, 3}, "use": {1}, "transfer": {1, 2}, "label": {1}}[words[0]] {
			words[named] = other(words[named])
		}
		l[i].Text = strings.Join(words, " ")
	}
	return n, l
}

// isUnreported is whether an entry changes no report.
func isUnreported(e api.ShipEntry) bool {
	return slices.Contains([]string{"note", "sign", "transfer", "split", "use", "label", "handover"}, firstOf(e))
}

// disturbed is a valid log with some more, and some less, of the entries that change no report.
func disturbed(r *rand.Rand, n api.ShipNet, l []api.ShipEntry) []api.ShipEntry {
	for range 60 {
		i := r.IntN(len(l) + 1)
		other := slices.Clone(l)
		if e := randomEntry(r, n, l[:i]); r.IntN(2) == 0 && isUnreported(e) {
			other = slices.Insert(other, i, e)
		} else if i < len(l) && isUnreported(l[i]) {
			other = slices.Delete(other, i, i+1)
		}
		if _, e := ship.CheckLog(n, other); e == api.OK {
			l = other
		}
	}
	return l
}

func TestTheSameReport(t *testing.T) {
	r := newRandom()
	changes := 0
	for range 150 {
		n := randomNet(r)
		l := randomLog(r, n, 40)
		report, e := ship.ReportOf(n, l)
		if e != api.OK {
			t.Fatalf("ReportOf %v: error %d", l, e)
		}
		otherNet, other := renamed(n, l)
		again, e := ship.ReportOf(otherNet, other)
		want(t, fmt.Sprint("ReportOf ", other), again, e, report, api.OK)
		other = disturbed(r, n, l)
		again, e = ship.ReportOf(n, other)
		want(t, fmt.Sprint("ReportOf ", other, " instead of ", l), again, e, report, api.OK)
		if report != "" && fmt.Sprint(l) != fmt.Sprint(other) {
			changes++
		}
	}
	if changes < 20 {
		t.Errorf("only %d reports of dives were tested", changes)
	}
}

// TestReportsByTheirDefinition compares reports with those of the model.
func TestReportsByTheirDefinition(t *testing.T) {
	r := newRandom()
	for range 60 {
		m := model{net: randomNet(r)}
		m.log = randomLog(r, m.net, 60)
		report, e := ship.ReportOf(m.net, m.log)
		want(t, fmt.Sprint("ReportOf ", m.log), report, e, m.report(), api.OK)
	}
}

func (m model) report() string {
	var reports []string
	for i, d := range m.dives() {
		var taken []int
		for _, s := range m.samples() {
			if s.Dive == i && s.Taken > 0 {
				taken = append(taken, s.Taken)
			}
		}
		slices.Sort(taken)
		box := fmt.Sprint(d.Box.X.Lo, d.Box.X.Hi, d.Box.Y.Lo, d.Box.Y.Hi, d.Box.Z.Lo, d.Box.Z.Hi)
		if !d.Open {
			reports = append(reports, written(d.Tasks)+"/"+box+"/"+written(taken))
		}
	}
	return strings.Join(reports, ";")
}

// written is numbers with blanks between them.
func written(l []int) string { return strings.Trim(fmt.Sprint(l), "[]") }
