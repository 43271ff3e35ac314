package ship_test

import (
	"fmt"
	"math"
	"math/big"
	"math/rand/v2"
	"regexp"
	"slices"
	"strconv"
	"strings"
	"testing"

	"moonpool/api"
	"moonpool/ship"
)

// P10.6 (SumOf, Journal, Recovered), P10.14

func TestSumOf(t *testing.T) {
	for _, c := range []struct {
		text  string
		after int
		sum   int
		err   api.Errno
	}{
		{"ab", 0, 23717, api.OK},
		{"a", 0, 98, api.OK},
		{"b", 98, 23717, api.OK},
		{"", 0, 0, api.OK},
		{"", 999960, 999960, api.OK},
		{"\x00", 0, 1, api.OK},
		{"\xff", 0, 256, api.OK},
		{"é", 0, (0xc3+1)*241 + 0xa9 + 1, api.OK},
		{"\x00", 999960, 999961 - 241 + 1, api.OK},
		{"ab", -1, 0, api.ErrRange},
		{"ab", 999961, 0, api.ErrRange},
		{"", math.MinInt, 0, api.ErrRange},
		{"", math.MaxInt, 0, api.ErrRange},
	} {
		n, e := ship.SumOf(c.text, c.after)
		want(t, fmt.Sprintf("SumOf %q after %d", c.text, c.after), n, e, c.sum, c.err)
	}
}

// bigSum is a sum without remainders in between.
func bigSum(s string, after int) int {
	sum := big.NewInt(int64(after))
	for _, b := range []byte(s) {
		sum.Mul(sum, big.NewInt(241))
		sum.Add(sum, big.NewInt(int64(b)+1))
	}
	return int(sum.Mod(sum, big.NewInt(999961)).Int64())
}

func TestSumsOfAllBytes(t *testing.T) {
	r := newRandom()
	for range 500 {
		b := make([]byte, r.IntN(60))
		for i := range b {
			b[i] = byte(r.IntN(256))
		}
		after := r.IntN(999961)
		n, e := ship.SumOf(string(b), after)
		want(t, fmt.Sprintf("SumOf %q after %d", b, after), n, e, bigSum(string(b), after), api.OK)
		half := r.IntN(len(b) + 1)
		first, _ := ship.SumOf(string(b[:half]), after)
		second, e := ship.SumOf(string(b[half:]), first)
		want(t, fmt.Sprintf("SumOf both parts of %q", b), second, e, n, api.OK)
	}
}

// journalOf is the journal of a log, by its definition.
func journalOf(l []api.ShipEntry) string {
	journal, after := "", 0
	for _, e := range l {
		written := fmt.Sprintf("%d %s %s", e.At, e.By, e.Text)
		after = bigSum(written, after)
		journal += fmt.Sprintf("%s %d\n", written, after)
	}
	return journal
}

func TestJournalOfExample(t *testing.T) {
	for count := range 9 {
		l := exampleLog()[:count]
		journal, e := ship.Journal(exampleNet(), l)
		want(t, fmt.Sprint("Journal of ", count, " entries"), journal, e, strings.Join(strings.SplitAfter(exampleJournal, "\n")[:count], ""), api.OK)
		want(t, "it is the one by its definition", journal, e, journalOf(l), api.OK)
	}
}

// TestCuts is whether exactly the whole lines are recovered of a journal that is cut at any byte.
func TestCuts(t *testing.T) {
	r := newRandom()
	for range 10 {
		n := randomNet(r)
		l := randomLog(r, n, 20)
		journal, e := ship.Journal(n, l)
		want(t, fmt.Sprint("Journal of ", l), journal, e, journalOf(l), api.OK)
		for cut := range len(journal) + 1 {
			whole := strings.Count(journal[:cut], "\n")
			got, size, e := ship.Recovered(n, journal[:cut])
			want(t, fmt.Sprintf("Recovered from %q", journal[:cut]), got, e, l[:whole], api.OK)
			want(t, fmt.Sprintf("the size of what was recovered from %q", journal[:cut]), size, e, strings.LastIndex(journal[:cut], "\n")+1, api.OK)
		}
		got, _, e := ship.Recovered(n, journal)
		want(t, fmt.Sprint("the state after what was recovered of ", l), stateOf(t, n, got), e, stateOf(t, n, l), api.OK)
	}
}

// TestWhatIsNoJournal is for strings that begin with three whole lines of a journal.
func TestWhatIsNoJournal(t *testing.T) {
	journal := exampleJournal
	end := strings.Index(journal, "10 pia")
	begin, rest := journal[:end], journal[end:]
	line := func(at, by, text string, sum int) string { return fmt.Sprintf("%s %s %s %d\n", at, by, text, sum) }
	sum := func(written string) int { return bigSum(written, 814090) }
	for _, next := range []string{
		"\n" + rest,
		" " + rest,
		"x" + rest,
		rest[1:],
		"0" + rest,
		strings.Replace(rest, "16086", "16087", 1),
		strings.Replace(rest, "16086", "016086", 1),
		strings.Replace(rest, "16086", "16086 ", 1),
		strings.Replace(rest, "\n", "\r\n", 1),
		strings.Replace(rest, "\n", " \n", 1),
		strings.Replace(rest, " ", "  ", 1),
		strings.Replace(rest, "begin", "begin ", 1),
		"+" + rest,
		"\x00",
		"10\n", "10 pia\n", "10 pia begin\n", "10 pia begin 1\n", " \n", "  \n", "   \n",
		line("10", "pia", "begin 1", bigSum("10 pia begin 1", 0)),
		line("010", "pia", "begin 1", sum("010 pia begin 1")),
		line("010", "pia", "begin 1", sum("10 pia begin 1")),
		line("-0", "pia", "begin 1", sum("-0 pia begin 1")),
		line("10", "pia", "begin 2", sum("10 pia begin 2")),
		line("2", "pia", "begin 1", sum("2 pia begin 1")),
		line("10", "zoe", "note ", sum("10 zoe note ")),
		line("10", "pia", "note \x7f", sum("10 pia note \x7f")),
		line("10000000000000", "pia", "note x", sum("10000000000000 pia note x")),
		line("9999999999999", "pia", "note x", sum("9999999999999 pia note x")),
		line("10", "pia", "note", sum("10 pia note")),
	} {
		got, size, e := ship.Recovered(exampleNet(), begin+next)
		want(t, fmt.Sprintf("Recovered with %q", next), got, e, exampleLog()[:3], api.OK)
		want(t, fmt.Sprintf("the size with %q", next), size, e, len(begin), api.OK)
	}
	for next, entry := range map[string]api.ShipEntry{
		line("10", "pia", "note ", sum("10 pia note ")):                                 entryOf(10, "pia", "note "),
		line("10", "pia", "note 1 2 ", sum("10 pia note 1 2 ")):                         entryOf(10, "pia", "note 1 2 "),
		line("10", "pia", "note    ", sum("10 pia note    ")):                           entryOf(10, "pia", "note    "),
		line("1000000000000", "gus", "note 16086", sum("1000000000000 gus note 16086")): entryOf(1000000000000, "gus", "note 16086"),
	} {
		for _, after := range []string{"", rest, "\n", " x"} {
			got, size, e := ship.Recovered(exampleNet(), begin+next+after)
			want(t, fmt.Sprintf("Recovered with %q", next+after), got, e, append(exampleLog()[:3], entry), api.OK)
			want(t, fmt.Sprintf("the size with %q", next+after), size, e, len(begin+next), api.OK)
		}
	}
}

func TestLongJournals(t *testing.T) {
	l := slices.Repeat([]api.ShipEntry{entryOf(1000000000000, "gus", "note "+strings.Repeat("~", 395))}, 60)
	journal, e := ship.Journal(exampleNet(), l)
	want(t, "Journal of long notes", journal, e, journalOf(l), api.OK)
	got, size, e := ship.Recovered(exampleNet(), journal)
	want(t, "Recovered of long notes", got, e, l, api.OK)
	want(t, "its size", size, e, len(journal), api.OK)
	more := journalOf(append(slices.Clone(l), l[0]))
	got, size, e = ship.Recovered(exampleNet(), more)
	want(t, "Recovered of 61 notes", got, e, l, api.OK)
	want(t, "its size", size, e, len(journal), api.OK)
	filled := journal + strings.Repeat("x", 60000-len(journal))
	got, size, e = ship.Recovered(exampleNet(), filled)
	want(t, "Recovered of 60000 bytes", got, e, l, api.OK)
	want(t, "its size", size, e, len(journal), api.OK)
	got, size, e = ship.Recovered(exampleNet(), filled+"x")
	want(t, "Recovered of 60001 bytes", got, e, none, api.ErrLarge)
	want(t, "its size", size, e, 0, api.ErrLarge)
	got, size, e = ship.Recovered(exampleNet(), "")
	want(t, "Recovered of nothing", got, e, none, api.OK)
	want(t, "its size", size, e, 0, api.OK)
}

var lines = regexp.MustCompile(`^([0-9]+) ([^ ]*) (.*) [0-9]+\n$`)

// longestJournal is the longest beginning that is a journal, and its entries: all beginnings are tried.
func longestJournal(n api.ShipNet, s string) ([]api.ShipEntry, int) {
	for size := len(s); size > 0; size-- {
		if s[size-1] != '\n' {
			continue
		}
		var l []api.ShipEntry
		for _, line := range strings.SplitAfter(s[:size], "\n") {
			if part := lines.FindStringSubmatch(line); part != nil {
				at, _ := strconv.Atoi(part[1])
				l = append(l, entryOf(at, part[2], part[3]))
			}
		}
		if journal, e := ship.Journal(n, l); e == api.OK && journal == s[:size] {
			return l, size
		}
	}
	return nil, 0
}

// damaged is a string of which something was changed.
func damaged(r *rand.Rand, s string) string {
	b := []byte(s)
	if len(b) == 0 {
		return "x"
	}
	i, k := r.IntN(len(b)), r.IntN(len(b))
	switch r.IntN(5) {
	case 0:
		b[i] = byte(r.IntN(256))
	case 1:
		b[i], b[k] = b[k], b[i]
	case 2:
		b = slices.Delete(b, i, i+1)
	case 3:
		b = slices.Insert(b, i, b[k])
	default:
		l := strings.SplitAfter(s, "\n")
		i, k := r.IntN(len(l)), r.IntN(len(l))
		l[i], l[k] = l[k], l[i]
		return strings.Join(l, "")
	}
	return string(b)
}

func TestDamagedJournals(t *testing.T) {
	r := newRandom()
	for range 40 {
		n := randomNet(r)
		journal := journalOf(randomLog(r, n, 20))
		for range 20 {
			s := damaged(r, journal)
			l, size := longestJournal(n, s)
			got, gotSize, e := ship.Recovered(n, s)
			want(t, fmt.Sprintf("Recovered from %q", s), got, e, l, api.OK)
			want(t, fmt.Sprintf("the size of what was recovered from %q", s), gotSize, e, size, api.OK)
		}
	}
}
