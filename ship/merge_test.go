package ship_test

import (
	"fmt"
	"slices"
	"testing"

	"moonpool/api"
	"moonpool/ship"
)

// P10.6 (Merged), P10.15

func TestMerged(t *testing.T) {
	begin := exampleLog()[:5]
	notes := slices.Repeat(logOf("20 gus note "), 53)
	full := more(append(exampleLog()[:6], notes...), "20 gus note ")
	for _, c := range []struct {
		name    string
		a, b    []api.ShipEntry
		merged  []api.ShipEntry
		refused []int
	}{
		{"nothing", nil, nil, nil, nil},
		{"nothing and something", nil, exampleLog(), exampleLog(), nil},
		{"something and nothing", exampleLog(), nil, exampleLog(), nil},
		{"a log with itself", exampleLog(), exampleLog(), exampleLog(), nil},
		{"a log with its beginning", exampleLog(), begin, exampleLog(), nil},
		{"a beginning with its log", begin, exampleLog(), exampleLog(), nil},
		{"two ends", more(begin, "20 pia task 0"), more(begin, "20 sam sample s 9 cold", "21 gus note x"),
			more(begin, "20 pia task 0", "20 sam sample s 9 cold", "21 gus note x"), nil},
		{"ends of other ticks", more(begin, "20 pia task 0"), more(begin, "19 sam sample s 9 cold", "20 sam use s 1", "21 gus note x"),
			more(begin, "20 pia task 0", "21 gus note x"), []int{5, 6}},
		{"both did the task", more(begin, "20 pia task 0"), more(begin, "21 pia task 0", "22 pia task 1"),
			more(begin, "20 pia task 0", "22 pia task 1"), []int{5}},
		{"both took a sample", more(begin, "20 sam sample s 9 cold"), more(begin, "20 pim sample s 8 dry", "21 pim sample t 8 dry", "22 pim use s 1", "22 pim use t 1"),
			more(begin, "20 sam sample s 9 cold", "21 pim sample t 8 dry", "22 pim use t 1"), []int{5, 7}},
		{"an entry that differs in its tick", logOf("1 gus note x"), logOf("2 gus note x", "3 gus note y"), logOf("1 gus note x", "2 gus note x", "3 gus note y"), nil},
		{"an entry that differs in its person", logOf("1 gus note x"), logOf("1 sam note x", "3 gus note y"), logOf("1 gus note x", "1 sam note x", "3 gus note y"), nil},
		{"the same after something else", logOf("1 gus note x", "2 gus note y"), logOf("2 gus note y", "2 gus note x"),
			logOf("1 gus note x", "2 gus note y", "2 gus note y", "2 gus note x"), nil},
		{"too many", append(exampleLog()[:5], notes...), more(begin, "20 gus note a", "20 gus note b", "20 gus note c", "21 gus note d"),
			more(append(exampleLog()[:5], notes...), "20 gus note a", "20 gus note b"), []int{7, 8}},
		{"more when it is full", full, more(begin, "20 gus note a", "20 gus note b"), full, []int{5, 6}},
	} {
		merged, refused, e := ship.Merged(exampleNet(), c.a, c.b)
		want(t, "Merged: "+c.name, merged, e, c.merged, api.OK)
		want(t, "refused: "+c.name, refused, e, c.refused, api.OK)
	}
}

// TestMergedByItsDefinition merges logs with a common beginning by appending entries one by one.
func TestMergedByItsDefinition(t *testing.T) {
	r := newRandom()
	added, left := 0, 0
	for range 60 {
		n := randomNet(r)
		a := randomLog(r, n, 30)
		b := longerLog(r, n, a[:r.IntN(len(a)+1)], 30)
		common := 0
		for common < min(len(a), len(b)) && a[common] == b[common] {
			common++
		}
		merged := model{n, a}
		var refused []int
		for i := common; i < len(b); i++ {
			if merged.errorOf(b[i]) != api.OK {
				refused = append(refused, i)
				continue
			}
			merged.log = append(slices.Clone(merged.log), b[i])
		}
		got, gotRefused, e := ship.Merged(n, a, b)
		want(t, fmt.Sprint("Merged ", a, " and ", b), got, e, merged.log, api.OK)
		want(t, fmt.Sprint("refused of ", b, " after ", a), gotRefused, e, refused, api.OK)
		added += len(got) - len(a)
		left += len(refused)
		for cut := range a {
			got, refused, e := ship.Merged(n, a, a[:cut])
			want(t, fmt.Sprint("Merged ", a, " and its beginning"), got, e, a, api.OK)
			want(t, "refused of it", refused, e, none, api.OK)
			got, refused, e = ship.Merged(n, a[:cut], a)
			want(t, fmt.Sprint("Merged a beginning and ", a), got, e, a, api.OK)
			want(t, "refused of it", refused, e, none, api.OK)
		}
	}
	if min(added, left) < 50 {
		t.Errorf("%d entries were added and %d refused: too few of one kind are tested", added, left)
	}
}
