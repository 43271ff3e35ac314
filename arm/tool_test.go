package arm_test

import (
	"fmt"
	"math/rand/v2"
	"slices"
	"strings"
	"testing"

	"moonpool/api"
	"moonpool/arm"
)

// P6.7, P6.14

func TestSwapsFor(t *testing.T) {
	for _, c := range []struct {
		have, want string
		swaps      [][2]int
	}{
		{"c a b", "a b c", [][2]int{{0, 1}, {1, 2}}},
		{"b c a", "a b c", [][2]int{{0, 2}, {1, 2}}},
		{"a b c", "a b c", nil},
		{"", "", nil},
		{"a", "a", nil},
		{"b a", "a b", [][2]int{{0, 1}}},
		{"a c b", "a b c", [][2]int{{1, 2}}},
		{"d c b a", "a b c d", [][2]int{{0, 3}, {1, 2}}},
		{"a b c d", "c d b a", [][2]int{{0, 2}, {1, 3}, {2, 3}}},
		{"h a b c d e f g", "a b c d e f g h", [][2]int{{0, 1}, {1, 2}, {2, 3}, {3, 4}, {4, 5}, {5, 6}, {6, 7}}},
		{"A0123456789- a A", "A a A0123456789-", [][2]int{{0, 2}}},
	} {
		l, e := arm.SwapsFor(strings.Fields(c.have), strings.Fields(c.want))
		want(t, "SwapsFor "+c.have+" to "+c.want, l, e, c.swaps, api.OK)
	}
}

func TestBadTools(t *testing.T) {
	nine := strings.Split("a b c d e f g h i", " ")
	for _, c := range []struct {
		name       string
		have, want []string
		err        api.Errno
	}{
		{"have is too long", nine, nine[:8], api.ErrLarge},
		{"want is too long", nine[:8], nine, api.ErrLarge},
		{"too long before the number", nil, nine, api.ErrLarge},
		{"too long before names", []string{""}, nine, api.ErrLarge},
		{"have is longer", nine[:3], nine[:2], api.ErrShape},
		{"want is longer", nil, nine[:1], api.ErrShape},
		{"the number before names", []string{""}, []string{"a", "a"}, api.ErrShape},
		{"no name in have", []string{"a", "-"}, []string{"b", "b"}, api.ErrName},
		{"an empty name in have", []string{"", "a"}, nine[:2], api.ErrName},
		{"a long name in have", []string{"abcdefghijklm"}, nine[:1], api.ErrName},
		{"one twice in have", []string{"a", "a"}, []string{"", "a"}, api.ErrDouble},
		{"twice no name", []string{"", ""}, []string{"a", "b"}, api.ErrName},
		{"one by one, the double first", []string{"a", "a", ""}, nine[:3], api.ErrDouble},
		{"no name in want", nine[:2], []string{"a", "1"}, api.ErrName},
		{"no name in want after one that is missing", nine[:2], []string{"x", "1"}, api.ErrName},
		{"one twice in want", nine[:3], []string{"a", "c", "c"}, api.ErrDouble},
		{"one that is missing twice in want", nine[:2], []string{"x", "x"}, api.ErrDouble},
		{"one that is missing", nine[:2], []string{"a", "c"}, api.ErrMissing},
		{"another case", nine[:1], []string{"A"}, api.ErrMissing},
		{"one that is nearly there", []string{"ab"}, []string{"a"}, api.ErrMissing},
	} {
		l, e := arm.SwapsFor(c.have, c.want)
		want(t, "SwapsFor: "+c.name, l, e, [][2]int{}, c.err)
	}
}

func shuffled(r *rand.Rand, l []string) []string {
	l = slices.Clone(l)
	r.Shuffle(len(l), func(i, k int) { l[i], l[k] = l[k], l[i] })
	return l
}

// cyclesOf is how many cycles the permutation from one order to another one has.
func cyclesOf(have, want []string) int {
	cycles := 0
	seen := map[string]bool{}
	for _, tool := range have {
		if !seen[tool] {
			cycles++
		}
		for !seen[tool] {
			seen[tool] = true
			tool = want[slices.Index(have, tool)]
		}
	}
	return cycles
}

func TestSwapsLeadToTheWantedOrder(t *testing.T) {
	r := newRandom()
	for range 3000 {
		have := shuffled(r, strings.Split("a b c d e f g h", " "))[:r.IntN(9)]
		wanted := shuffled(r, have)
		swaps, e := arm.SwapsFor(have, wanted)
		rack := slices.Clone(have)
		before := -1
		for _, x := range swaps {
			if x[0] >= x[1] || x[0] <= before || rack[x[0]] == wanted[x[0]] || rack[x[1]] != wanted[x[0]] {
				t.Fatalf("SwapsFor %v to %v: %v: %v comes too early, or brings no tool to its place", have, wanted, swaps, x)
			}
			rack[x[0]], rack[x[1]] = rack[x[1]], rack[x[0]]
			before = x[0]
		}
		want(t, fmt.Sprint("after SwapsFor ", have, wanted), rack, e, wanted, api.OK)
		want(t, fmt.Sprint("how many of SwapsFor ", have, wanted), len(swaps), e, len(have)-cyclesOf(have, wanted), api.OK)
	}
}

// TestNoFewerSwaps finds the fewest exchanges of four tools by trying all of them.
func TestNoFewerSwaps(t *testing.T) {
	start := "a b c d"
	fewest := map[string]int{start: 0}
	waiting := []string{start}
	for len(waiting) > 0 {
		at := waiting[0]
		waiting = waiting[1:]
		for i := range 4 {
			for k := range i {
				l := strings.Fields(at)
				l[i], l[k] = l[k], l[i]
				next := strings.Join(l, " ")
				if _, ok := fewest[next]; !ok {
					fewest[next] = fewest[at] + 1
					waiting = append(waiting, next)
				}
			}
		}
	}
	if len(fewest) != 24 {
		t.Fatalf("%d orders of four tools", len(fewest))
	}
	for order, n := range fewest {
		swaps, e := arm.SwapsFor(strings.Fields(start), strings.Fields(order))
		want(t, "how many of SwapsFor "+order, len(swaps), e, n, api.OK)
	}
}
