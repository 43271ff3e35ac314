package bus_test

import (
	"fmt"
	"math"
	"slices"
	"strings"
	"testing"

	"moonpool/api"
	"moonpool/bus"
)

// P7.8, P7.15

const (
	streamsText = "a 4 4 1;b 6 6 2;c 12 12 3"
	netText     = "main,spare,gyro,dvl/power=0,1;heading=0+2,1+2;speed=3/full=0+1+2;slow=0+1;drift=0"
)

func TestFormatStreams(t *testing.T) {
	for _, c := range []struct {
		streams []api.BusStream
		text    string
	}{
		{exampleStreams(), streamsText},
		{nil, ""},
		{make([]api.BusStream, 2), " 0 0 0; 0 0 0"},
		{[]api.BusStream{streamOf("a;b c", math.MinInt, -1, math.MaxInt)}, "a;b c -9223372036854775808 -1 9223372036854775807"},
		{make([]api.BusStream, 5000), " 0 0 0" + strings.Repeat("; 0 0 0", 4999)},
	} {
		if s := bus.FormatStreams(c.streams); s != c.text {
			t.Errorf("FormatStreams of %v: %q, want %q", c.streams, s, c.text)
		}
	}
}

func TestFormatNet(t *testing.T) {
	for _, c := range []struct {
		net  api.BusNet
		text string
	}{
		{exampleNet(), netText},
		{api.BusNet{}, "//"},
		{api.BusNet{Parts: []string{"a"}}, "a//"},
		{api.BusNet{Parts: []string{"a", "b"}, Modes: []api.BusMode{modeOf("x"), modeOf("y")}}, "a,b//x=;y="},
		{api.BusNet{Parts: make([]string, 3), Functions: make([]api.BusFunction, 2), Modes: make([]api.BusMode, 2)}, ",,/=;=/=;="},
		{api.BusNet{Functions: []api.BusFunction{functionOf("f", nil, []int{}, []int{-1, 100})}}, "/f=,,-1+100/"},
		{api.BusNet{
			Parts:     []string{"a/b", ","},
			Functions: []api.BusFunction{functionOf("=", []int{math.MinInt, math.MaxInt})},
			Modes:     []api.BusMode{modeOf("+", 2, 1, 1)},
		}, "a/b,,/==-9223372036854775808+9223372036854775807/+=2+1+1"},
	} {
		if s := bus.FormatNet(c.net); s != c.text {
			t.Errorf("FormatNet of %v: %q, want %q", c.net, s, c.text)
		}
	}
}

func short(text string) string { return text[:min(len(text), 60)] }

func TestParseStreams(t *testing.T) {
	for _, c := range []struct {
		text    string
		streams []api.BusStream
	}{
		{streamsText, exampleStreams()},
		{"a 1 1 1", []api.BusStream{streamOf("a", 1, 1, 1)}},
		{"A0123456789- 60 60 20;a 10 9 8", []api.BusStream{streamOf("A0123456789-", 60, 60, 20), streamOf("a", 10, 9, 8)}},
	} {
		l, e := bus.ParseStreams(c.text)
		want(t, "ParseStreams of "+c.text, l, e, c.streams, api.OK)
	}
	const seven = "a 1 1 1;b 1 1 1;c 1 1 1;d 1 1 1;e 1 1 1;f 1 1 1;g 1 1 1"
	for _, c := range []struct {
		text string
		err  api.Errno
	}{
		{strings.Repeat("x", 60001), api.ErrLarge},
		{strings.Repeat("x", 60000), api.ErrSyntax},
		{"a 1 1 1" + strings.Repeat(";a 1 1 1", 7499), api.ErrLarge},
		{"a 1 1 1" + strings.Repeat(";a 1 1 1", 7499) + ";", api.ErrSyntax},
		{seven, api.ErrLarge},
		{seven + ";g", api.ErrSyntax},
		{"a 1 1 1;- 1 1 1", api.ErrName},
		{"abcdefghijklm 1 1 1", api.ErrName},
		{"a\n 1 1 1", api.ErrName},
		{"é 1 1 1", api.ErrName},
		{"1 1 1 1", api.ErrName},
		{"a,b/c=d+e 1 1 1", api.ErrName},
		{"a 1 1 1;a 1 1 1", api.ErrExists},
		{"a 0 1 1", api.ErrRange},
		{"a 61 1 1", api.ErrRange},
		{"a 99 99 99", api.ErrRange},
		{"a 4 5 1", api.ErrRange},
		{"a 4 0 1", api.ErrRange},
		{"a 4 4 0", api.ErrRange},
		{"a 4 4 21", api.ErrRange},
		{"- 1 1 1;a 1 1", api.ErrSyntax},
	} {
		l, e := bus.ParseStreams(c.text)
		want(t, "ParseStreams of "+short(c.text), l, e, none, c.err)
	}
}

// badNumbers stand for a number of at most 2 digits without a sign, and make a string malformed.
func badNumbers() []string {
	return []string{"", "-", "-1", "-0", "+1", "00", "01", "100", "001", "x", "1x", "x1", "1.5", "٣", "1\n", "\t1", "0x1", "1-1", "1_1"}
}

func TestParseMalformedStreams(t *testing.T) {
	texts := []string{
		"", " ", ";", "a", "a 1", "a 1 1", "a 1 1 1 ", " a 1 1 1", "a 1 1 1 1", " 1 1 1", "a  1 1 1", "a 1  1 1", "a 1 1  1", "a\t1\t1\t1", "a,1,1,1",
		"a b 1 1 1", "1 1 1 a", "a 1 1 b",
	}
	for _, bad := range badNumbers() {
		texts = append(texts, "a "+bad+" 1 1", "a 9 "+bad+" 1", "a 9 9 "+bad)
	}
	for _, bad := range texts {
		for _, text := range []string{bad, bad + ";b 6 6 2", "b 6 6 2;" + bad, "b 6 6 2;" + bad + ";c 1 1 1"} {
			l, e := bus.ParseStreams(text)
			want(t, fmt.Sprintf("ParseStreams of %q", text), l, e, none, api.ErrSyntax)
		}
	}
}

func TestParseNet(t *testing.T) {
	for _, c := range []struct {
		text string
		net  api.BusNet
	}{
		{netText, exampleNet()},
		{"a//", api.BusNet{Parts: []string{"a"}}},
		{"a//x=", api.BusNet{Parts: []string{"a"}, Modes: []api.BusMode{modeOf("x")}}},
		{"a//x=;y=", api.BusNet{Parts: []string{"a"}, Modes: []api.BusMode{modeOf("x"), modeOf("y")}}},
		{"a,b/f=0+1,0,0/", api.BusNet{Parts: []string{"a", "b"}, Functions: []api.BusFunction{functionOf("f", []int{0, 1}, []int{0}, []int{0})}}},
		{"a/f=0/x=0;y=", api.BusNet{Parts: []string{"a"}, Functions: []api.BusFunction{functionOf("f", []int{0})}, Modes: []api.BusMode{modeOf("x", 0), modeOf("y")}}},
		{bus.FormatNet(greatNet()), greatNet()},
	} {
		n, e := bus.ParseNet(c.text)
		want(t, "ParseNet of "+c.text, n, e, c.net, api.OK)
	}
	const eleven = "a,b,c,d,e,f,g,h,i,j,k"
	for _, c := range []struct {
		text string
		err  api.Errno
	}{
		{strings.Repeat("x", 60001), api.ErrLarge},
		{strings.Repeat("x", 60000), api.ErrSyntax},
		{"a" + strings.Repeat(",a", 29999) + "/", api.ErrSyntax},
		{"a" + strings.Repeat(",a", 29998) + "//", api.ErrLarge},
		{"a//x=" + strings.Repeat(";x=", 19998), api.ErrLarge},
		{"//", api.ErrShape},
		{"/f=0/x=", api.ErrShape},
		{eleven + "//", api.ErrLarge},
		{"a/" + strings.Repeat("f=0;", 10) + "f=0/", api.ErrLarge},
		{"a//x=;x=;x=;x=;x=;x=;x=", api.ErrLarge},
		{"a,1//", api.ErrName},
		{"a,b=c//", api.ErrName},
		{"a;b//", api.ErrName},
		{"a, b//", api.ErrName},
		{"a,a//", api.ErrExists},
		{"a/f,g=0/", api.ErrName},
		{"a/ f=0/", api.ErrName},
		{"a/f+=0/", api.ErrName},
		{"a/f=0;f=0/", api.ErrExists},
		{"a/f=0,0,0,0,0,0,0/", api.ErrLarge},
		{"a/f=1/", api.ErrMissing},
		{"a/f=99/", api.ErrMissing},
		{"a,b/f=1+0/", api.ErrOrder},
		{"a,b/f=1+1/", api.ErrOrder},
		{"a//x y=", api.ErrName},
		{"a//x=;x=", api.ErrExists},
		{"a//x=0", api.ErrMissing},
		{"a/f=0/x=99", api.ErrMissing},
		{"a/f=0;g=0/x=1+0", api.ErrOrder},
		{"a,1//x", api.ErrSyntax},
	} {
		n, e := bus.ParseNet(c.text)
		want(t, "ParseNet of "+short(c.text), n, e, api.BusNet{}, c.err)
	}
}

func TestParseMalformedNets(t *testing.T) {
	texts := []string{
		"", "/", "a", "a/", "a/f=0", "///", "a///", "a/f=0/x=0/", "a/f=0//x=0", "/a//", "a//x/y=",
		",//", "a,//", ",a//", "a,,b//",
		"a/f/", "a/f=/", "a/=0/", "a/=/", "a/f==0/", "a/f=0=/", "a/f=0=1/", "a/=f=0/", "a/;/", "a/f=0;/", "a/;f=0/", "a/f=0;;g=0/", "a/f=,/", "a/f=0,/", "a/f=,0/", "a/f=0,,0/",
		"a/f=+/", "a/f=0+/", "a/f=+0/", "a/f=0++0/", "a/f=0 0/", "a/f= 0/", "a/f=0 /", "a/f=0;0/", "a/0/",
		"a//x", "a//=", "a//=0", "a//x==", "a//x=0=", "a//==", "a//;", "a//x=;", "a//;x=", "a//x=;;y=", "a//x=+", "a//x=0+", "a//x=+0", "a//x=0++0", "a//x=0,0", "a//x= ", "a//x=0 ", "a//x=0 0", "a//x=\n",
	}
	for _, bad := range badNumbers() {
		texts = append(texts, "a/f="+bad+"/", "a/f=0+"+bad+"/", "a/f="+bad+",0/", "a/f=0,"+bad+"/", "a/f=0;g="+bad+"/", "a/f=0/x=0+"+bad, "a/f=0/x=0;y="+bad+"+0")
		if bad != "" {
			texts = append(texts, "a/f=0/x="+bad)
		}
	}
	for _, text := range texts {
		n, e := bus.ParseNet(text)
		want(t, fmt.Sprintf("ParseNet of %q", text), n, e, api.BusNet{}, api.ErrSyntax)
	}
}

func TestParseReversesFormat(t *testing.T) {
	r := newRandom()
	for range 2000 {
		l := randomStreams(r, 6)
		x, e := bus.ParseStreams(bus.FormatStreams(l))
		want(t, "ParseStreams", x, e, l, api.OK)
		n := randomNet(r, 10)
		y, e := bus.ParseNet(bus.FormatNet(n))
		want(t, "ParseNet", y, e, n, api.OK)
		if !slices.Equal(x, l) || !slices.Equal(y.Parts, n.Parts) {
			t.Errorf("other names: %v of %v, %q of %q", x, l, y.Parts, n.Parts)
		}
	}
}
