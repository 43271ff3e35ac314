package ship_test

import (
	"fmt"
	"slices"
	"testing"

	"moonpool/api"
	"moonpool/ship"
)

// P10.2 (sample, split, use, transfer, label), P10.5 (ChainOf, AmountsOf), P10.10

func TestSamples(t *testing.T) {
	full := fullSamples()
	wantEntered(t, exampleNet(), []entered{
		{openLog(), "5 sam sample s 1 cold", api.OK},
		{openLog(), "5 pim sample abcdefghijkl 1000000 A-1", api.OK},
		{openLog(), "5 kim sample s 100 s", api.OK},
		{sampleLog(), "5 sam sample S 100 cold", api.OK},
		{nil, "5 sam sample 1 0 4", api.ErrName},
		{openLog(), "5 sam sample 1s 100 cold", api.ErrName},
		{openLog(), "5 sam sample abcdefghijklm 100 cold", api.ErrName},
		{more(sampleLog(), "6 pia home"), "6 sam sample s 0 4", api.ErrExists},
		{sampleLog(), "5 sam sample s 100 cold", api.ErrExists},
		{splitLog(), "6 sam sample t 100 cold", api.ErrExists},
		{nil, "5 sam sample s 0 4", api.ErrNone},
		{readyLog(), "5 sam sample s 100 cold", api.ErrNone},
		{more(openLog(), "4 pia home"), "5 sam sample s 100 cold", api.ErrNone},
		{openLog(), "5 sam sample s 0 4", api.ErrRange},
		{full, "5 sam sample x 1000001 4", api.ErrRange},
		{openLog(), "5 sam sample s 100 4", api.ErrName},
		{full, "5 sam sample x 100 abcdefghijklm", api.ErrName},
		{full, "5 sam sample x 100 cold", api.ErrFull},
		{full[:len(full)-1], "5 sam sample x 100 cold", api.OK},
		{more(openLog(), "5 pia fault main"), "5 sam sample s 100 cold", api.OK},
	})
	l := more(openLog(), "4 pim sample a 7 cold", "5 pia move 1 0 1 0 0 0 0/0", "6 sam sample b 8 dry", "7 pia move 1 0 1 0 0 0 0/0")
	s := stateOf(t, exampleNet(), l)
	want(t, "samples", s.Samples, api.OK, []api.ShipSample{
		{Tag: "a", Preservative: "cold", At: 4, Amount: 7, Taken: 7, Chain: []api.ShipLink{linkOf(4, "", "pim")}},
		{Tag: "b", Preservative: "dry", At: 6, Box: boxOf(0, 1, 0, 0, 0, 0), Amount: 8, Taken: 8, Chain: []api.ShipLink{linkOf(6, "", "sam")}},
	}, api.OK)
}

// TestSamplesOfDives is whether a sample knows its dive.
func TestSamplesOfDives(t *testing.T) {
	l := more(divesLog(1), "2 pia sign 2", "2 pim sign 2", "3 pim begin 2", "4 sam sample a 7 cold", "5 pim home", "6 sam split a 3 b")
	s := stateOf(t, exampleNet(), l)
	for _, x := range s.Samples {
		want(t, "the dive of "+x.Tag, x.Dive, api.OK, 1, api.OK)
	}
}

func TestSplits(t *testing.T) {
	full := fullSamples()
	used := more(openLog(), "5 sam sample s 2 cold", "5 sam use s 1")
	wantEntered(t, exampleNet(), []entered{
		{sampleLog(), "6 sam split s 1 t", api.OK},
		{sampleLog(), "6 sam split s 99 t", api.OK},
		{more(sampleLog(), "6 pia home"), "99 sam split s 50 t", api.OK},
		{splitLog(), "6 sam split t 29 u", api.OK},
		{nil, "6 sam split s 1 t", api.ErrMissing},
		{sampleLog(), "6 sam split t 0 1", api.ErrMissing},
		{sampleLog(), "6 pia split s 0 1", api.ErrState},
		{sampleLog(), "6 kim split s 1 t", api.ErrState},
		{sampleLog(), "6 sam split s 0 1", api.ErrName},
		{sampleLog(), "6 sam split s 0 abcdefghijklm", api.ErrName},
		{sampleLog(), "6 sam split s 0 s", api.ErrExists},
		{splitLog(), "6 sam split s 70 t", api.ErrExists},
		{sampleLog(), "6 sam split s 0 t", api.ErrRange},
		{sampleLog(), "6 sam split s 100 t", api.ErrRange},
		{splitLog(), "6 sam split s 70 u", api.ErrRange},
		{splitLog(), "6 sam split t 30 u", api.ErrRange},
		{used, "6 sam split s 1 t", api.ErrRange},
		{more(used, "6 sam use s 1"), "6 sam split s 1 t", api.ErrRange},
		{full, "6 sam split s 99 x", api.ErrRange},
		{full, "6 sam split s 1 x", api.ErrFull},
		{full[:len(full)-1], "6 sam split s 1 x", api.OK},
	})
}

// TestSplitOfSplit is whether what was split has what it was split from then, and nothing of what happens to that later.
func TestSplitOfSplit(t *testing.T) {
	l := more(openLog(), "4 pia move 1 0 1 0 0 0 0/0", "5 sam sample s 100 cold", "6 sam label s x1", "7 sam use s 10", "8 sam transfer s pia",
		"9 pia move 1 0 1 0 0 0 0/0", "10 pia home", "11 pia split s 30 t", "12 pia transfer s kim", "13 pia split t 29 u", "14 pia label u x2", "15 pia use t 1", "16 kim use s 60")
	box := boxOf(0, 1, 0, 0, 0, 0)
	chain := []api.ShipLink{linkOf(5, "", "sam"), linkOf(8, "sam", "pia")}
	want(t, "samples", stateOf(t, exampleNet(), l).Samples, api.OK, []api.ShipSample{
		{Tag: "s", Lab: "x1", Preservative: "cold", At: 5, Box: box, Amount: 0, Used: 70, Taken: 100, Chain: append(slices.Clone(chain), linkOf(12, "pia", "kim"))},
		{Tag: "t", Origin: "s", Preservative: "cold", At: 5, Box: box, Amount: 0, Used: 1, Chain: chain},
		{Tag: "u", Origin: "t", Lab: "x2", Preservative: "cold", At: 5, Box: box, Amount: 29, Chain: chain},
	}, api.OK)
	for _, tag := range []string{"s", "t", "u"} {
		a, e := ship.AmountsOf(exampleNet(), l, tag)
		want(t, "AmountsOf "+tag, a, e, api.ShipAmounts{Left: 29, Used: 71, Taken: 100}, api.OK)
	}
}

func TestUses(t *testing.T) {
	empty := more(sampleLog(), "6 sam use s 100")
	wantEntered(t, exampleNet(), []entered{
		{sampleLog(), "6 sam use s 1", api.OK},
		{sampleLog(), "6 sam use s 100", api.OK},
		{nil, "6 sam use s 0", api.ErrMissing},
		{sampleLog(), "6 sam use t 0", api.ErrMissing},
		{sampleLog(), "6 pia use s 0", api.ErrState},
		{sampleLog(), "6 sam use s 0", api.ErrRange},
		{sampleLog(), "6 sam use s 101", api.ErrRange},
		{splitLog(), "6 sam use s 71", api.ErrRange},
		{splitLog(), "6 sam use s 70", api.OK},
		{empty, "6 sam use s 1", api.ErrRange},
		{empty, "6 sam transfer s pia", api.OK},
		{empty, "6 sam label s x", api.OK},
		{empty, "6 sam sample s 1 cold", api.ErrExists},
	})
}

func TestTransfers(t *testing.T) {
	given := more(sampleLog(), "6 sam transfer s pia")
	wantEntered(t, exampleNet(), []entered{
		{sampleLog(), "6 sam transfer s pia", api.OK},
		{sampleLog(), "6 sam transfer s kim", api.OK},
		{nil, "6 sam transfer s zoe", api.ErrMissing},
		{sampleLog(), "6 sam transfer t pia", api.ErrMissing},
		{sampleLog(), "6 pia transfer s zoe", api.ErrState},
		{sampleLog(), "6 kim transfer s kim", api.ErrState},
		{sampleLog(), "6 sam transfer s zoe", api.ErrMissing},
		{sampleLog(), "6 sam transfer s gus", api.ErrAllowed},
		{sampleLog(), "6 sam transfer s sam", api.ErrDouble},
		{given, "6 sam transfer s pim", api.ErrState},
		{given, "6 pia transfer s sam", api.OK},
		{given, "6 pia transfer s pia", api.ErrDouble},
		{given, "6 pia use s 1", api.OK},
		{given, "6 sam use s 1", api.ErrState},
	})
}

func TestLabels(t *testing.T) {
	labelled := more(splitLog(), "7 sam label s x7")
	wantEntered(t, exampleNet(), []entered{
		{sampleLog(), "6 sam label s x7", api.OK},
		{sampleLog(), "6 sam label s s", api.OK},
		{nil, "6 sam label s 7", api.ErrMissing},
		{labelled, "7 sam label u 7", api.ErrMissing},
		{labelled, "7 pia label s 7", api.ErrState},
		{labelled, "7 sam label s 7", api.ErrName},
		{labelled, "7 sam label t abcdefghijklm", api.ErrName},
		{labelled, "7 sam label s x7", api.ErrDouble},
		{labelled, "7 sam label s x8", api.ErrDouble},
		{labelled, "7 sam label t x7", api.ErrExists},
		{labelled, "7 sam label t X7", api.OK},
		{labelled, "7 sam label t x8", api.OK},
	})
}

func TestChainAndAmountsOfExamples(t *testing.T) {
	for _, c := range []struct {
		tag     string
		chain   []api.ShipLink
		amounts api.ShipAmounts
		err     api.Errno
	}{
		{"s1", []api.ShipLink{linkOf(21, "", "sam"), linkOf(42, "sam", "pia")}, api.ShipAmounts{Left: 90, Used: 10, Taken: 100}, api.OK},
		{"s2", []api.ShipLink{linkOf(21, "", "sam")}, api.ShipAmounts{Left: 90, Used: 10, Taken: 100}, api.OK},
		{"s3", nil, api.ShipAmounts{}, api.ErrMissing},
		{"", nil, api.ShipAmounts{}, api.ErrMissing},
		{"S1", nil, api.ShipAmounts{}, api.ErrMissing},
		{"s1 ", nil, api.ShipAmounts{}, api.ErrMissing},
	} {
		chain, e := ship.ChainOf(exampleNet(), laterLog(), c.tag)
		want(t, "ChainOf "+c.tag, chain, e, c.chain, c.err)
		amounts, e := ship.AmountsOf(exampleNet(), laterLog(), c.tag)
		want(t, "AmountsOf "+c.tag, amounts, e, c.amounts, c.err)
	}
}

// TestAmountsOfSources is whether samples of another source do not count.
func TestAmountsOfSources(t *testing.T) {
	l := more(openLog(), "5 sam sample a 100 cold", "5 sam sample b 50 cold", "6 sam split b 20 c", "7 sam split a 10 d", "8 sam split c 5 e", "9 sam use e 4", "9 sam use a 90")
	for tag, amounts := range map[string]api.ShipAmounts{
		"a": {Left: 10, Used: 90, Taken: 100}, "d": {Left: 10, Used: 90, Taken: 100},
		"b": {Left: 46, Used: 4, Taken: 50}, "c": {Left: 46, Used: 4, Taken: 50}, "e": {Left: 46, Used: 4, Taken: 50},
	} {
		a, e := ship.AmountsOf(exampleNet(), l, tag)
		want(t, "AmountsOf "+tag, a, e, amounts, api.OK)
	}
}

// sourceOf is the index of the sample that was taken from which one stems.
func sourceOf(l []api.ShipSample, i int) int {
	for l[i].Origin != "" {
		i = slices.IndexFunc(l, func(s api.ShipSample) bool { return s.Tag == l[i].Origin })
	}
	return i
}

// TestUnbrokenChains is for the chains and the amounts of all samples.
func TestUnbrokenChains(t *testing.T) {
	r := newRandom()
	transfers, splits := 0, 0
	for range 200 {
		n := randomNet(r)
		l := randomLog(r, n, 60)
		samples := stateOf(t, n, l).Samples
		for i, s := range samples {
			what := fmt.Sprint("the sample ", s, " of ", l)
			chain, e := ship.ChainOf(n, l, s.Tag)
			want(t, "ChainOf "+what, chain, e, s.Chain, api.OK)
			before := linkOf(0, "", "")
			for _, x := range chain {
				if x.From != before.To || x.At < before.At || x.To == "" {
					t.Errorf("%s has the link %v after %v", what, x, before)
				}
				before = x
			}
			holder, _ := ship.Answer(n, l, "sample "+s.Tag)
			want(t, "the holder of "+what, holder, api.OK, fmt.Sprint(before.To, " ", s.Amount, " ", labOf(s)), api.OK)
			var sum api.ShipAmounts
			for k, x := range samples {
				if sourceOf(samples, k) == sourceOf(samples, i) {
					sum.Left += x.Amount
					sum.Used += x.Used
				}
			}
			sum.Taken = samples[sourceOf(samples, i)].Taken
			a, e := ship.AmountsOf(n, l, s.Tag)
			want(t, "AmountsOf "+what, a, e, sum, api.OK)
			want(t, "what is left and was used of "+what, a.Left+a.Used, api.OK, a.Taken, api.OK)
			transfers += len(s.Chain) - 1
			splits += len(s.Origin)
		}
	}
	if min(transfers, splits) < 50 {
		t.Errorf("%d transfers and %d splits: too few of one kind are tested", transfers, splits)
	}
}

// labOf is the laboratory number of a sample, or "-".
func labOf(s api.ShipSample) string {
	if s.Lab == "" {
		return "-"
	}
	return s.Lab
}
