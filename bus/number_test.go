package bus_test

import (
	"fmt"
	"math"
	"math/rand/v2"
	"slices"
	"testing"

	"moonpool/api"
	"moonpool/bus"
)

// P7.2, P7.10

func TestAcceptedAndLost(t *testing.T) {
	for _, c := range []struct {
		name           string
		numbers        []int
		accepted, lost []int
	}{
		{"example", []int{250, 251, 251, 2, 0}, []int{0, 1, 3}, []int{252, 253, 254, 255, 0, 1}},
		{"none", nil, nil, nil},
		{"one", []int{77}, []int{0}, nil},
		{"in order", []int{254, 255, 0, 1}, []int{0, 1, 2, 3}, nil},
		{"repeated", []int{5, 5, 5}, []int{0}, nil},
		{"older", []int{5, 4}, []int{0}, nil},
		{"2 newer", []int{5, 7}, []int{0, 1}, []int{6}},
		{"127 newer", []int{5, 132, 133}, []int{0, 1, 2}, upTo(6, 131)},
		{"128 newer is older", []int{5, 133, 6}, []int{0, 2}, nil},
		{"129 newer is older", []int{5, 134}, []int{0}, nil},
		{"255 newer is older", []int{5, 4, 6}, []int{0, 2}, nil},
		{"127 newer, over 255", []int{200, 71}, []int{0, 1}, append(upTo(201, 255), upTo(0, 70)...)},
		{"128 newer, over 255", []int{200, 72}, []int{0}, nil},
		{"lost numbers that come later", []int{0, 3, 1, 2, 4}, []int{0, 1, 4}, []int{1, 2}},
		{"a number that is lost twice", []int{0, 100, 200, 44, 144}, []int{0, 1, 2, 3, 4}, slices.Concat(upTo(1, 99), upTo(101, 199), upTo(201, 255), upTo(0, 43), upTo(45, 143))},
	} {
		l := numbered(t, 3, c.numbers...)
		a, e := bus.AcceptedOf(l)
		want(t, "AcceptedOf: "+c.name, a, e, c.accepted, api.OK)
		lost, e := bus.LostOf(l, 3)
		want(t, "LostOf: "+c.name, lost, e, c.lost, api.OK)
		lost, e = bus.LostOf(l, 4)
		want(t, "LostOf another source: "+c.name, lost, e, none, api.OK)
	}
}

// upTo are the numbers from one to another one.
func upTo(from, to int) []int {
	var l []int
	for n := from; n <= to; n++ {
		l = append(l, n)
	}
	return l
}

func TestFramesThatAreNotCorrect(t *testing.T) {
	l := numbered(t, 15, 9, 12, 10, 14)
	l[1][7] ^= 1
	l[2][6] = 256
	l = append([]frame{{16, 0, 0, 0, 0, 0, 0, rest([]int{16, 0, 0, 0, 0, 0, 0})}, {-1}}, l...)
	a, e := bus.AcceptedOf(l)
	want(t, "AcceptedOf", a, e, []int{2, 5}, api.OK)
	lost, e := bus.LostOf(l, 15)
	want(t, "LostOf", lost, e, []int{10, 11, 12, 13}, api.OK)
}

func TestSources(t *testing.T) {
	l := append(numbered(t, 0, 1), numbered(t, 15, 200, 202)...)
	l = append(l, numbered(t, 0, 4, 4)...)
	l = append(l, numbered(t, 15, 203)...)
	a, e := bus.AcceptedOf(l)
	want(t, "AcceptedOf", a, e, []int{0, 1, 2, 3, 5}, api.OK)
	for _, c := range []struct {
		source int
		lost   []int
		err    api.Errno
	}{
		{0, []int{2, 3}, api.OK},
		{15, []int{201}, api.OK},
		{1, nil, api.OK},
		{-1, nil, api.ErrRange},
		{16, nil, api.ErrRange},
		{math.MaxInt, nil, api.ErrRange},
		{math.MinInt, nil, api.ErrRange},
	} {
		lost, e := bus.LostOf(l, c.source)
		want(t, fmt.Sprint("LostOf ", c.source), lost, e, c.lost, c.err)
	}
}

func TestManyFrames(t *testing.T) {
	l := numbered(t, 2, upTo(0, 59)...)
	a, e := bus.AcceptedOf(l)
	want(t, "AcceptedOf 60", a, e, upTo(0, 59), api.OK)
	for _, many := range [][]frame{append(l, l[0]), append(l, frame{-1}), make([]frame, 61)} {
		a, e = bus.AcceptedOf(many)
		want(t, "AcceptedOf 61", a, e, none, api.ErrLarge)
		for _, source := range []int{2, 16} {
			lost, e := bus.LostOf(many, source)
			want(t, "LostOf 61", lost, e, none, api.ErrLarge)
		}
	}
}

// randomFrames are frames of a few sources, of which some are repeated, some are not correct, and some are older.
func randomFrames(t *testing.T, r *rand.Rand, most int) []frame {
	numbers := [16]int{}
	for i := range numbers {
		numbers[i] = r.IntN(256)
	}
	var l []frame
	for range r.IntN(most + 1) {
		source := r.IntN(3) * 7
		numbers[source] = (numbers[source] + []int{0, 1, 1, 1, 2, 5, 100, 127, 128, 129, 255, 250}[r.IntN(12)]) % 256
		f := encoded(t, messageOf(source, numbers[source], r.IntN(4), r.IntN(256)))
		if r.IntN(8) == 0 {
			f[r.IntN(8)] ^= 1 << r.IntN(8)
		}
		l = append(l, f)
	}
	return l
}

// counted are the accepted frames and the lost numbers of one source, found by counting upwards.
func counted(l []frame, source int) (indexes, lost []int) {
	for i, f := range l {
		m, e := bus.Decoded(f)
		if e != api.OK || m.Source != source {
			continue
		}
		if len(indexes) == 0 {
			indexes = append(indexes, i)
			continue
		}
		var between []int
		n := l[indexes[len(indexes)-1]][1]
		for range 127 {
			n = (n + 1) % 256
			if n == m.Number {
				indexes, lost = append(indexes, i), append(lost, between...)
				break
			}
			between = append(between, n)
		}
	}
	return indexes, lost
}

func TestAcceptedByCounting(t *testing.T) {
	r := newRandom()
	for range 1000 {
		l := randomFrames(t, r, 60)
		var all []int
		for source := range 16 {
			indexes, lost := counted(l, source)
			all = append(all, indexes...)
			x, e := bus.LostOf(l, source)
			want(t, fmt.Sprint("LostOf ", l), x, e, lost, api.OK)
		}
		slices.Sort(all)
		a, e := bus.AcceptedOf(l)
		want(t, fmt.Sprint("AcceptedOf ", l), a, e, all, api.OK)
	}
}

// acceptedFrames are the accepted frames themselves.
func acceptedFrames(l []frame) []frame {
	a, _ := bus.AcceptedOf(l)
	var frames []frame
	for _, i := range a {
		frames = append(frames, l[i])
	}
	return frames
}

func TestRepeatedFramesChangeNothing(t *testing.T) {
	r := newRandom()
	for range 1000 {
		l := randomFrames(t, r, 30)
		var twice []frame
		for _, f := range l {
			twice = append(twice, f)
			if r.IntN(2) == 0 {
				twice = append(twice, f)
			}
		}
		want(t, fmt.Sprint("accepted with repeated ones ", l), acceptedFrames(twice), api.OK, acceptedFrames(l), api.OK)
	}
}

func TestOtherSourcesChangeNothing(t *testing.T) {
	r := newRandom()
	for range 1000 {
		l := randomFrames(t, r, 60)
		for _, source := range []int{0, 7, 14} {
			isOther := func(f frame) bool { return f[0] != source }
			alone := slices.DeleteFunc(slices.Clone(l), isOther)
			among := slices.DeleteFunc(acceptedFrames(l), isOther)
			want(t, fmt.Sprint("accepted of ", source, " in ", l), among, api.OK, acceptedFrames(alone), api.OK)
			x, e := bus.LostOf(l, source)
			y, err := bus.LostOf(alone, source)
			want(t, fmt.Sprint("LostOf ", source, " in ", l), x, e, y, err)
		}
	}
}

// TestNumbersFollowEachOther takes each next number from the accepted or the lost ones.
func TestNumbersFollowEachOther(t *testing.T) {
	r := newRandom()
	for range 1000 {
		l := slices.DeleteFunc(randomFrames(t, r, 60), func(f frame) bool { return f[0] != 7 })
		frames := acceptedFrames(l)
		lost, _ := bus.LostOf(l, 7)
		for len(frames) > 1 {
			next := (frames[0][1] + 1) % 256
			for len(lost) > 0 && lost[0] == next && frames[1][1] != next {
				lost, next = lost[1:], (next+1)%256
			}
			if frames[1][1] != next {
				t.Fatalf("%v: there is no %d between accepted and lost numbers", l, next)
			}
			frames = frames[1:]
		}
		if len(lost) > 0 {
			t.Fatalf("%v: %v are lost after the last accepted one", l, lost)
		}
	}
}
