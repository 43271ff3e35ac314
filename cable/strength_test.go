package cable_test

import (
	"math"
	"math/big"
	"testing"

	"moonpool/api"
	"moonpool/cable"
)

// P1.4, P1.12

func TestStrongestIn(t *testing.T) {
	i, n, e := cable.StrongestIn(exampleLine(), exampleCurrents())
	want(t, "example", [2]int{i, n}, e, [2]int{0, 14544}, api.OK)
	l := exampleLine()
	l.Links[0].Weight, l.Links[1].Weight = -20, 20
	i, n, e = cable.StrongestIn(l, []int{0, 0, 0})
	want(t, "the first of several", [2]int{i, n}, e, [2]int{1, 10000}, api.OK)
	l.Load.Z = 0
	i, n, e = cable.StrongestIn(l, []int{0, 0, 0})
	want(t, "a pull downwards", [2]int{i, n}, e, [2]int{0, 400}, api.OK)
	l.Links[0].Weight, l.Links[1].Weight = 0, 0
	i, n, e = cable.StrongestIn(l, []int{0, 0, 0})
	want(t, "no tension", [2]int{i, n}, e, [2]int{0, 0}, api.OK)
	l, c := extremes()
	i, n, e = cable.StrongestIn(l, c)
	want(t, "greatest line", [2]int{i, n}, e, [2]int{9, 800000000}, api.OK)
}

func TestBrokenIn(t *testing.T) {
	l, c := exampleLine(), exampleCurrents()
	for _, x := range []struct {
		name      string
		strengths []int
		broken    []int
		err       api.Errno
	}{
		{"example", []int{121, 100, 101}, []int{1}, api.OK},
		{"none", []int{121, 101, 101}, nil, api.OK},
		{"all", []int{120, 100, 0}, []int{0, 1, 2}, api.OK},
		{"greatest strengths", []int{50000, 50000, 50000}, nil, api.OK},
		{"no strengths", nil, nil, api.ErrShape},
		{"too few", []int{121, 100}, nil, api.ErrShape},
		{"too many", []int{121, 100, 101, 101}, nil, api.ErrShape},
		{"shape before items", []int{-1}, nil, api.ErrShape},
		{"negative", []int{121, 100, -1}, nil, api.ErrRange},
		{"too great", []int{50001, 100, 101}, nil, api.ErrRange},
		{"the least int", []int{0, math.MinInt, 0}, nil, api.ErrRange},
	} {
		b, e := cable.BrokenIn(l, c, x.strengths)
		want(t, x.name, b, e, x.broken, x.err)
	}
}

func TestStrengthIsReached(t *testing.T) {
	l := api.CableLine{Load: api.CableForce{X: 3, Z: 4}, Links: []api.CableLink{{Height: 1}, {Height: 1, Weight: -4, Drag: 3}}}
	b, e := cable.BrokenIn(l, []int{0, -1}, []int{5, 0})
	want(t, "as strong as the tension", b, e, []int(nil), api.OK)
	b, e = cable.BrokenIn(l, []int{0, -1}, []int{4, 0})
	want(t, "less strong", b, e, []int{0}, api.OK)
	b, e = cable.BrokenIn(l, []int{0, 0}, []int{5, 0})
	want(t, "the strength 0", b, e, []int{1}, api.OK)
}

func TestBends(t *testing.T) {
	l, c := exampleLine(), exampleCurrents()
	b, e := cable.BendsOf(l, c)
	want(t, "BendsOf", b, e, []api.Frac{{Num: 1600, Den: 252601}, {Num: 0, Den: 1}}, api.OK)
	i, f, e := cable.SharpestIn(l, c)
	want(t, "SharpestIn", i, e, 0, api.OK)
	want(t, "its bend", f, e, api.Frac{Num: 1600, Den: 252601}, api.OK)
	one := exampleLine()
	one.Links = one.Links[:1]
	b, e = cable.BendsOf(one, c[:1])
	want(t, "BendsOf one link", b, e, []api.Frac(nil), api.OK)
	i, f, e = cable.SharpestIn(one, c[:1])
	want(t, "SharpestIn one link", i, e, 0, api.ErrNone)
	want(t, "its bend", f, e, api.Frac{}, api.ErrNone)
	one.Load.Z = -20
	_, _, e = cable.SharpestIn(one, c[:1])
	want(t, "SharpestIn one slack link", 0, e, 0, api.ErrOpen)
}

func TestStraightLine(t *testing.T) {
	l := exampleLine()
	b, e := cable.BendsOf(l, []int{0, 0, 0})
	want(t, "BendsOf", b, e, []api.Frac{{Num: 0, Den: 1}, {Num: 0, Den: 1}}, api.OK)
	i, f, e := cable.SharpestIn(l, []int{0, 0, 0})
	want(t, "SharpestIn", i, e, 0, api.OK)
	want(t, "its bend", f, e, api.Frac{Num: 0, Den: 1}, api.OK)
}

func TestSharpestIsTheFirst(t *testing.T) {
	// X of the tensions is 0, 1, 0, 1, 2: the bends 1/2, 1/2, 1/2, 1/10.
	l := api.CableLine{Load: api.CableForce{Z: 1}}
	for range 5 {
		l.Links = append(l.Links, api.CableLink{Height: 1, Drag: 1})
	}
	i, f, e := cable.SharpestIn(l, []int{0, 1, -1, 1, 1})
	want(t, "SharpestIn", i, e, 0, api.OK)
	want(t, "its bend", f, e, api.Frac{Num: 1, Den: 2}, api.OK)
	// 0, 0, 1, 3, 0: the bends 0, 1/2, 1/5, 9/10.
	i, f, e = cable.SharpestIn(l, []int{0, 0, 1, 2, -3})
	want(t, "SharpestIn the last", i, e, 3, api.OK)
	want(t, "its bend", f, e, api.Frac{Num: 9, Den: 10}, api.OK)
}

func asFrac(x *big.Rat) api.Frac {
	return api.Frac{Num: int(x.Num().Int64()), Den: int(x.Denom().Int64())}
}

// bendByDefinition is a bend as an exact fraction.
func bendByDefinition(low, up api.CableForce) *big.Rat {
	across := big.NewInt(int64(low.X*up.Z - up.X*low.Z))
	a := big.NewInt(int64(low.X*low.X + low.Z*low.Z))
	b := big.NewInt(int64(up.X*up.X + up.Z*up.Z))
	return new(big.Rat).SetFrac(new(big.Int).Mul(across, across), new(big.Int).Mul(a, b))
}

func TestBendsByDefinition(t *testing.T) {
	r := newRandom()
	for range 1000 {
		l := randomTautLine(r)
		if len(l.Links) == 1 {
			continue
		}
		c := randomCurrents(r, len(l.Links))
		f, _ := cable.TensionsOf(l, c)
		var bends []api.Frac
		sharpest, sharpestBend := 0, new(big.Rat)
		for i := range len(f) - 1 {
			x := bendByDefinition(f[i], f[i+1])
			bends = append(bends, asFrac(x))
			if x.Cmp(sharpestBend) > 0 {
				sharpest, sharpestBend = i, x
			}
		}
		b, e := cable.BendsOf(l, c)
		want(t, "BendsOf", b, e, bends, api.OK)
		i, x, e := cable.SharpestIn(l, c)
		want(t, "SharpestIn", i, e, sharpest, api.OK)
		want(t, "its bend", x, e, asFrac(sharpestBend), api.OK)
	}
}

// TestSharpestOfLargeParts compares bends whose parts have products that exceed an int.
func TestSharpestOfLargeParts(t *testing.T) {
	l := api.CableLine{Load: api.CableForce{X: -9973, Z: 9001}}
	var c []int
	for i := range api.MaxCableLinks {
		l.Links = append(l.Links, api.CableLink{Height: 1, Weight: 1, Drag: 20 - i%2})
		c = append(c, 49-(i-4)*(i-4))
	}
	b, e := cable.BendsOf(l, c)
	if e != api.OK {
		t.Fatalf("BendsOf: error %d", e)
	}
	sharpest := 0
	for i, x := range b {
		if x.Den <= api.MaxPart {
			t.Errorf("the bend %v has small parts", x)
		}
		x := big.NewRat(int64(x.Num), int64(x.Den))
		if x.Cmp(big.NewRat(int64(b[sharpest].Num), int64(b[sharpest].Den))) > 0 {
			sharpest = i
		}
	}
	i, x, e := cable.SharpestIn(l, c)
	want(t, "SharpestIn", i, e, sharpest, api.OK)
	want(t, "its bend", x, e, b[sharpest], api.OK)
}

func TestMirrored(t *testing.T) {
	r := newRandom()
	for range 500 {
		l := randomTautLine(r)
		c := randomCurrents(r, len(l.Links))
		m, d := l, make([]int, len(c))
		m.Load.X = -l.Load.X
		for i := range c {
			d[i] = -c[i]
		}
		f, _ := cable.TensionsOf(l, c)
		g, _ := cable.TensionsOf(m, d)
		for i := range f {
			want(t, "TensionsOf", g[i], api.OK, api.CableForce{X: -f[i].X, Z: f[i].Z}, api.OK)
		}
		length, _ := cable.LengthOf(l, c)
		mirrored, e := cable.LengthOf(m, d)
		want(t, "LengthOf", mirrored, e, length, api.OK)
		bends, _ := cable.BendsOf(l, c)
		b, e := cable.BendsOf(m, d)
		want(t, "BendsOf", b, e, bends, api.OK)
		layback, _ := cable.LaybackOf(l, c)
		mirrored, e = cable.LaybackOf(m, d)
		want(t, "LaybackOf", mirrored, e, api.Range{Lo: -layback.Hi, Hi: -layback.Lo}, api.OK)
	}
}
