package bus_test

import (
	"fmt"
	"math"
	"math/big"
	"math/rand/v2"
	"slices"
	"testing"

	"moonpool/api"
	"moonpool/bus"
)

// P7.1, P7.9

type frame = [api.BusBytes]int

func TestCheckMessage(t *testing.T) {
	for _, m := range []api.BusMessage{
		{}, messageOf(15, 255, 3, 255, 255, 255, 255), messageOf(0, 255, 0), messageOf(15, 0, 0), messageOf(0, 0, 3), messageOf(0, 0, 0, 0, 0, 0, 255),
	} {
		want(t, fmt.Sprint("CheckMessage of ", m), nil, bus.CheckMessage(m), nil, api.OK)
	}
	for _, m := range badMessages() {
		want(t, fmt.Sprint("CheckMessage of ", m), nil, bus.CheckMessage(m), nil, api.ErrRange)
		f, e := bus.Encoded(m)
		want(t, fmt.Sprint("Encoded of ", m), f, e, frame{}, api.ErrRange)
	}
}

func badMessages() []api.BusMessage {
	l := []api.BusMessage{messageOf(16, 0, 0), messageOf(0, 0, 4), messageOf(0, 256, 0), messageOf(16, 256, 4, 256)}
	for _, n := range []int{-1, 256, math.MinInt, math.MaxInt} {
		l = append(l, messageOf(n, 0, 0), messageOf(0, n, 0), messageOf(0, 0, n))
		for i := range api.BusData {
			m := messageOf(1, 2, 3, 4, 5, 6, 7)
			m.Data[i] = n
			l = append(l, m)
		}
	}
	return l
}

// rest is the remainder of bytes as one polynomial of bits, times the eighth power, divided by that of BusPolynomial.
func rest(bytes []int) int {
	n := new(big.Int)
	for _, b := range bytes {
		n.Lsh(n, 8).Or(n, big.NewInt(int64(b)))
	}
	n.Lsh(n, 8)
	for n.BitLen() > 8 {
		n.Xor(n, new(big.Int).Lsh(big.NewInt(263), uint(n.BitLen()-9)))
	}
	return int(n.Int64())
}

func randomBytes(r *rand.Rand, count int) []int {
	l := make([]int, count)
	for i := range l {
		l[i] = r.IntN(256)
	}
	return l
}

func TestRemainderOf(t *testing.T) {
	for _, c := range []struct {
		bytes []int
		want  int
	}{
		{nil, 0},
		{[]int{0}, 0},
		{make([]int, 60), 0},
		{[]int{1}, 7},
		{[]int{2}, 14},
		{[]int{1, 0}, 21},
		{[]int{0, 0, 1}, 7},
		{[]int{1, 7}, 0},
		{[]int{128}, 137},
		{[]int{255}, 243},
	} {
		n, e := bus.RemainderOf(c.bytes)
		want(t, fmt.Sprint("RemainderOf ", c.bytes), n, e, c.want, api.OK)
	}
	r := newRandom()
	for count := range 61 {
		for range 20 {
			l := randomBytes(r, count)
			n, e := bus.RemainderOf(l)
			want(t, fmt.Sprint("RemainderOf ", l), n, e, rest(l), api.OK)
		}
	}
	for b := range 256 {
		n, e := bus.RemainderOf([]int{b})
		want(t, fmt.Sprint("RemainderOf ", b), n, e, rest([]int{b}), api.OK)
	}
}

func TestBadBytes(t *testing.T) {
	for _, c := range []struct {
		name  string
		bytes []int
		err   api.Errno
	}{
		{"61", make([]int, 61), api.ErrLarge},
		{"61 before items", slices.Repeat([]int{-1}, 61), api.ErrLarge},
		{"60, the last one too great", append(make([]int, 59), 256), api.ErrRange},
		{"the first one below 0", []int{-1, 0}, api.ErrRange},
		{"the greatest int", []int{0, math.MaxInt}, api.ErrRange},
		{"the least int", []int{math.MinInt}, api.ErrRange},
	} {
		n, e := bus.RemainderOf(c.bytes)
		want(t, "RemainderOf "+c.name, n, e, 0, c.err)
	}
}

func TestFrames(t *testing.T) {
	for _, c := range []struct {
		message api.BusMessage
		frame   frame
	}{
		{messageOf(0, 0, 0, 0, 0, 1, 0), frame{0, 0, 0, 0, 0, 1, 0, 21}},
		{api.BusMessage{}, frame{}},
		{messageOf(0, 0, 0, 0, 0, 0, 1), frame{0, 0, 0, 0, 0, 0, 1, 7}},
		{messageOf(3, 250, 2, 9, 8, 7, 6), frame{3, 250, 2, 9, 8, 7, 6, rest([]int{3, 250, 2, 9, 8, 7, 6})}},
		{messageOf(15, 255, 3, 255, 255, 255, 255), frame{15, 255, 3, 255, 255, 255, 255, rest([]int{15, 255, 3, 255, 255, 255, 255})}},
	} {
		f, e := bus.Encoded(c.message)
		want(t, fmt.Sprint("Encoded of ", c.message), f, e, c.frame, api.OK)
		m, e := bus.Decoded(c.frame)
		want(t, fmt.Sprint("Decoded of ", c.frame), m, e, c.message, api.OK)
	}
}

func TestBadFrames(t *testing.T) {
	// of are bytes with their remainder.
	of := func(bytes ...int) frame {
		f := frame(append(bytes, 0))
		f[7] = rest(bytes)
		return f
	}
	for _, c := range []struct {
		name  string
		frame frame
		err   api.Errno
	}{
		{"a wrong remainder", frame{0, 0, 0, 0, 0, 1, 0, 20}, api.ErrProof},
		{"a wrong byte", frame{0, 0, 0, 128, 0, 1, 0, 21}, api.ErrProof},
		{"the remainder alone", frame{0, 0, 0, 0, 0, 0, 0, 1}, api.ErrProof},
		{"a byte below 0", frame{0, 0, 0, 0, 0, -1, 0, 21}, api.ErrRange},
		{"a byte of 256", frame{256, 0, 0, 0, 0, 0, 0, 0}, api.ErrRange},
		{"a remainder of 256", frame{0, 0, 0, 0, 0, 0, 0, 256}, api.ErrRange},
		{"a remainder below 0", frame{0, 0, 0, 0, 0, 0, 0, -1}, api.ErrRange},
		{"the greatest int", frame{0, 0, math.MaxInt, 0, 0, 0, 0, 0}, api.ErrRange},
		{"the least int", frame{0, math.MinInt, 0, 0, 0, 0, 0, 0}, api.ErrRange},
		{"a source that there is not", of(16, 0, 0, 0, 0, 0, 0), api.ErrRange},
		{"the greatest source", of(255, 0, 0, 0, 0, 0, 0), api.ErrRange},
		{"a kind that there is not", of(0, 0, 4, 0, 0, 0, 0), api.ErrRange},
		{"the remainder before the source", frame{16, 0, 0, 0, 0, 0, 0, 0}, api.ErrProof},
		{"the remainder before the kind", frame{0, 0, 4, 0, 0, 0, 0, 0}, api.ErrProof},
	} {
		m, e := bus.Decoded(c.frame)
		want(t, "Decoded of "+c.name, m, e, api.BusMessage{}, c.err)
	}
}

func TestDecodedReversesEncoded(t *testing.T) {
	r := newRandom()
	for range 2000 {
		m := randomMessage(r)
		f, e := bus.Encoded(m)
		want(t, fmt.Sprint("the remainder of Encoded ", m), f[7], e, rest(f[:7]), api.OK)
		x, e := bus.Decoded(f)
		want(t, fmt.Sprint("Decoded of ", f), x, e, m, api.OK)
	}
}

// TestShortErrors changes all bits, in every way, that lie within 8 neighbouring ones.
func TestShortErrors(t *testing.T) {
	r := newRandom()
	for range 20 {
		f := encoded(t, randomMessage(r))
		for first := range 8*api.BusBytes - 7 {
			for pattern := 1; pattern < 256; pattern++ {
				changed := f
				for bit := range 8 {
					at := first + bit
					changed[at/8] ^= pattern >> (7 - bit) & 1 << (7 - at%8)
				}
				if m, e := bus.Decoded(changed); e != api.ErrProof || m != (api.BusMessage{}) {
					t.Fatalf("Decoded of %v, of %v with %b changed from bit %d on: %v, error %d", changed, f, pattern, first, m, e)
				}
			}
		}
	}
}

func TestRemaindersAreXored(t *testing.T) {
	r := newRandom()
	for range 1000 {
		count := r.IntN(61)
		a, b := randomBytes(r, count), randomBytes(r, count)
		both := make([]int, count)
		for i := range both {
			both[i] = a[i] ^ b[i]
		}
		x, _ := bus.RemainderOf(a)
		y, _ := bus.RemainderOf(b)
		n, e := bus.RemainderOf(both)
		want(t, fmt.Sprint("RemainderOf ", a, " xor ", b), n, e, x^y, api.OK)
	}
}
