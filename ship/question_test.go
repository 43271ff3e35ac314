package ship_test

import (
	"fmt"
	"strings"
	"testing"

	"moonpool/api"
	"moonpool/ship"
)

// P10.7

func TestAnswersOfExamples(t *testing.T) {
	labelled := more(laterLog(), "43 sam label s2 x7", "44 pia transfer s1 sam", "45 sam transfer s1 kim", "46 sam use s2 20")
	faulty := more(exampleLog()[:5], "12 pim fault gyro")
	broken := more(faulty, "13 pim fault main")
	for _, c := range []struct {
		log              []api.ShipEntry
		question, answer string
	}{
		{nil, "count", "0"},
		{exampleLog(), "count", "8"},
		{nil, "failed", "-"},
		{exampleLog(), "failed", "-"},
		{faulty, "failed", "gyro"},
		{broken, "failed", "main,gyro"},
		{more(broken, "14 kim repair gyro"), "failed", "main"},
		{nil, "mode", "full"},
		{exampleLog(), "mode", "full"},
		{faulty, "mode", "drift"},
		{broken, "mode", "-"},
		{exampleLog(), "dive 1", "home pia 0 2 0 0 0 5"},
		{exampleLog()[:4], "dive 1", "open pia 0 0 0 0 0 0"},
		{more(exampleLog()[:5], "12 pia handover pim"), "dive 1", "open pim 0 2 0 0 0 5"},
		{divesLog(3), "dive 3", "home pia 0 0 0 0 0 0"},
		{exampleLog(), "sample s1", "sam 100 -"},
		{laterLog(), "sample s1", "pia 70 -"},
		{laterLog(), "sample s2", "sam 20 -"},
		{labelled, "sample s2", "sam 0 x7"},
		{exampleLog(), "chain s1", "sam"},
		{laterLog(), "chain s1", "sam,pia"},
		{labelled, "chain s1", "sam,pia,sam,kim"},
		{labelled, "chain s2", "sam"},
	} {
		answer, e := ship.Answer(exampleNet(), c.log, c.question)
		want(t, fmt.Sprint("Answer ", c.question, " after ", c.log), answer, e, c.answer, api.OK)
		answer, e = deskOf(t, exampleNet(), c.log).Answer(c.question)
		want(t, fmt.Sprint("Answer of a desk ", c.question, " after ", c.log), answer, e, c.answer, api.OK)
	}
	modeless := changed(func(n *api.ShipNet) { n.Bus.Modes = nil })
	answer, e := ship.Answer(modeless, nil, "mode")
	want(t, "mode without modes", answer, e, "-", api.OK)
}

func TestBadQuestions(t *testing.T) {
	for err, questions := range map[api.Errno][]string{
		api.ErrSyntax: {
			"", " ", "x", "Count", "counts", "count ", "count 1", " count", "failed ", "failed x", "mode ", "mode 1", "state", "report", "journal", "note x",
			"dive", "dive ", "dive  1", "dive 1 ", "dive 1 1", "dive x", "dive -1", "dive -0", "dive 01", "dive +1", "dive 00000001", "dive 10000000", "dive s1",
			"sample", "sample ", "sample  s1", "sample s1 ", "sample s1 s1", "samples s1", "chain", "chain ", "chain  s1", "chain s1 ", "chain s1 s1", "home",
			"count\n", "count\x00", strings.Repeat("count ", 100000),
		},
		api.ErrMissing: {"dive 0", "dive 2", "dive 9999999", "sample s2", "sample S1", "sample 1", "sample s1\n", "sample \xff", "chain s2", "chain x", "chain -", "chain ,", "chain " + strings.Repeat("x", 100000)},
	} {
		for _, question := range questions {
			answer, e := ship.Answer(exampleNet(), exampleLog(), question)
			want(t, fmt.Sprintf("Answer %.40q", question), answer, e, "", err)
			answer, e = deskOf(t, exampleNet(), exampleLog()).Answer(question)
			want(t, fmt.Sprintf("Answer of a desk %.40q", question), answer, e, "", err)
		}
	}
}

// TestAnswersByTheirDefinition compares answers with what the model knows.
func TestAnswersByTheirDefinition(t *testing.T) {
	r := newRandom()
	for range 60 {
		m := model{net: randomNet(r)}
		m.log = randomLog(r, m.net, 40)
		ask := func(question, wanted string) {
			answer, e := ship.Answer(m.net, m.log, question)
			want(t, fmt.Sprint(question, " after ", m.log), answer, e, wanted, api.OK)
		}
		var failed []string
		for _, part := range m.failed() {
			failed = append(failed, m.net.Bus.Parts[part])
		}
		ask("failed", orDash(strings.Join(failed, ",")))
		ask("count", fmt.Sprint(len(m.log)))
		name := ""
		if mode, e := ship.ModeOf(m.net, m.log); e == api.OK {
			name = m.net.Bus.Modes[mode].Name
		}
		ask("mode", orDash(name))
		for i, d := range m.dives() {
			b := d.Box
			state := map[bool]string{true: "open", false: "home"}[d.Open]
			ask(fmt.Sprint("dive ", i+1), fmt.Sprint(state, " ", d.Pilot, " ", written([]int{b.X.Lo, b.X.Hi, b.Y.Lo, b.Y.Hi, b.Z.Lo, b.Z.Hi})))
		}
		for _, s := range m.samples() {
			ask("sample "+s.Tag, fmt.Sprint(holderOf(s), " ", s.Amount, " ", orDash(s.Lab)))
			chain := ""
			for _, x := range s.Chain {
				chain += "," + x.To
			}
			ask("chain "+s.Tag, chain[1:])
		}
	}
}

func orDash(s string) string {
	if s == "" {
		return "-"
	}
	return s
}
