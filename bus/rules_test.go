package bus_test

import (
	"fmt"
	"math"
	"math/rand/v2"
	"reflect"
	"slices"
	"strings"
	"testing"

	"moonpool/api"
	"moonpool/bus"
)

// R1, R2, R3, R4, R9

// arguments of every function, whose lists none of them may change.
type arguments struct {
	message        api.BusMessage
	bytes          []int
	frame          frame
	frames         []frame
	source         int
	streams        []api.BusStream
	stream         int
	starts         []int
	ticks          int
	net            api.BusNet
	failed         []int
	function, mode int
	heard          []int
	span           api.Range
	timeout        int
	texts          [2]string
}

func exampleArguments() arguments {
	frames := make([]frame, 0, 5)
	for _, n := range []int{250, 251, 251, 2, 0} {
		f, _ := bus.Encoded(messageOf(3, n, 1))
		frames = append(frames, f)
	}
	return arguments{
		message: messageOf(0, 0, 0, 0, 0, 1, 0),
		bytes:   []int{1, 0},
		frame:   frame{0, 0, 0, 0, 0, 1, 0, 21},
		frames:  frames,
		source:  3,
		streams: exampleStreams(),
		stream:  2,
		starts:  []int{0, 0, 0},
		ticks:   12,
		net:     exampleNet(),
		failed:  []int{0, 3},
		mode:    2,
		heard:   []int{3, 10, 12},
		span:    spanOf(0, 20),
		timeout: 4,
		texts:   [2]string{streamsText, netText},
	}
}

// result is what a function, which takes these arguments in this order, returns.
type result struct {
	name, arguments string
	values          []any
	err             api.Errno
}

func (x result) takes(argument string) bool {
	return slices.Contains(strings.Fields(x.arguments), argument)
}

// wantError is whether a result is an error alone.
func (x result) wantError(t *testing.T, what string, err api.Errno) {
	t.Helper()
	if x.err != err || !x.isZero() {
		t.Errorf("%s: %s: %v, error %d, want the error %d", x.name, what, x.values, x.err, err)
	}
}

func (x result) isZero() bool {
	return !slices.ContainsFunc(x.values, func(v any) bool { return !reflect.ValueOf(v).IsZero() })
}

// resultsOf are those of all functions.
func resultsOf(a arguments) []result {
	var all []result
	of := func(name, arguments string) func(x any, e api.Errno) {
		return func(x any, e api.Errno) { all = append(all, result{name, arguments, []any{x}, e}) }
	}
	one := func(x any) (any, api.Errno) { return x, api.OK }
	of("CheckMessage", "message")(nothing{}, bus.CheckMessage(a.message))
	of("RemainderOf", "many bytes")(pair(bus.RemainderOf(a.bytes)))
	of("Encoded", "message")(pair(bus.Encoded(a.message)))
	of("Decoded", "byte remainder")(pair(bus.Decoded(a.frame)))
	of("AcceptedOf", "frames")(pair(bus.AcceptedOf(a.frames)))
	of("LostOf", "frames source")(pair(bus.LostOf(a.frames, a.source)))
	of("CheckStreams", "streams")(pair(bus.CheckStreams(a.streams)))
	of("LoadOf", "streams fine")(pair(bus.LoadOf(a.streams)))
	of("ResponseOf", "streams stream full")(pair(bus.ResponseOf(a.streams, a.stream)))
	of("LateIn", "streams")(pair(bus.LateIn(a.streams)))
	of("OrderFor", "streams full")(pair(bus.OrderFor(a.streams)))
	of("CarriedBy", "streams shape starts ticks")(pair(bus.CarriedBy(a.streams, a.starts, a.ticks)))
	of("WorstFrom", "streams shape starts ticks")(pair(bus.WorstFrom(a.streams, a.starts, a.ticks)))
	of("DemandIn", "streams time")(pair(bus.DemandIn(a.streams, a.ticks)))
	of("OverloadIn", "streams wide calm")(pair(bus.OverloadIn(a.streams)))
	of("EarliestFirst", "streams shape starts ticks")(pair(bus.EarliestFirst(a.streams, a.starts, a.ticks)))
	of("CheckNet", "net")(pair(bus.CheckNet(a.net)))
	of("WorksAfter", "net failed")(pair(bus.WorksAfter(a.net, a.failed)))
	of("CutOf", "net function")(pair(bus.CutOf(a.net, a.function)))
	of("ModeAfter", "net failed lost")(pair(bus.ModeAfter(a.net, a.failed)))
	of("MarginOf", "net mode needless")(pair(bus.MarginOf(a.net, a.mode)))
	of("SilentIn", "often heard span order timeout")(pair(bus.SilentIn(a.heard, a.span, a.timeout)))
	of("FormatStreams", "")(one(bus.FormatStreams(a.streams)))
	of("ParseStreams", "")(pair(bus.ParseStreams(a.texts[0])))
	of("FormatNet", "")(one(bus.FormatNet(a.net)))
	of("ParseNet", "")(pair(bus.ParseNet(a.texts[1])))
	return all
}

// nothing stands beside an error that is the only result.
type nothing struct{}

func pair[T any](x T, e api.Errno) (any, api.Errno) { return x, e }

// defect is a change to arguments that makes a function return an error.
type defect struct {
	apply func(a *arguments)
	err   api.Errno
}

// defects are those that the results name among their arguments.
func defects() map[string]defect {
	return map[string]defect{
		"message":   {func(a *arguments) { a.message.Kind = 4 }, api.ErrRange},
		"many":      {func(a *arguments) { a.bytes = append(a.bytes, make([]int, 60)...) }, api.ErrLarge},
		"bytes":     {func(a *arguments) { a.bytes[1] = 256 }, api.ErrRange},
		"byte":      {func(a *arguments) { a.frame[5] = -1 }, api.ErrRange},
		"remainder": {func(a *arguments) { a.frame[7] = 22 }, api.ErrProof},
		"frames":    {func(a *arguments) { a.frames = append(a.frames, make([]frame, 60)...) }, api.ErrLarge},
		"source":    {func(a *arguments) { a.source = 16 }, api.ErrRange},
		"streams":   {func(a *arguments) { a.streams[1].Name = a.streams[0].Name }, api.ErrExists},
		"fine":      {func(a *arguments) { a.streams = finestStreams() }, api.ErrLarge},
		"stream":    {func(a *arguments) { a.stream = len(a.streams) }, api.ErrMissing},
		"full":      {func(a *arguments) { a.streams, a.stream = fullStreams(), 1 }, api.ErrNone},
		"shape":     {func(a *arguments) { a.starts = append(a.starts, 0) }, api.ErrShape},
		"starts":    {func(a *arguments) { a.starts[0] = -1 }, api.ErrRange},
		"ticks":     {func(a *arguments) { a.ticks = 401 }, api.ErrRange},
		"time":      {func(a *arguments) { a.ticks = 10001 }, api.ErrRange},
		"wide":      {func(a *arguments) { a.streams = wideStreams() }, api.ErrLarge},
		"calm":      {func(a *arguments) { a.streams = exampleStreams() }, api.ErrNone},
		"net":       {func(a *arguments) { a.net.Modes[2].Needs = []int{3} }, api.ErrMissing},
		"failed":    {func(a *arguments) { a.failed = []int{1, 0} }, api.ErrOrder},
		"lost":      {func(a *arguments) { a.failed = []int{0, 1} }, api.ErrNone},
		"function":  {func(a *arguments) { a.function = -1 }, api.ErrMissing},
		"mode":      {func(a *arguments) { a.mode = 3 }, api.ErrMissing},
		"needless":  {func(a *arguments) { a.net.Modes[2].Needs = nil }, api.ErrNone},
		"often":     {func(a *arguments) { a.heard = upTo(0, 60) }, api.ErrLarge},
		"heard":     {func(a *arguments) { a.heard = []int{3, 2} }, api.ErrOrder},
		"span":      {func(a *arguments) { a.span.Lo = math.MaxInt }, api.ErrRange},
		"order":     {func(a *arguments) { a.span = spanOf(2, 1) }, api.ErrOrder},
		"timeout":   {func(a *arguments) { a.timeout = -1 }, api.ErrRange},
	}
}

// TestErrorsInOrder is whether each error comes before all those that are listed after it.
func TestErrorsInOrder(t *testing.T) {
	all := defects()
	for i, x := range resultsOf(exampleArguments()) {
		names := strings.Fields(x.arguments)
		for k, name := range names {
			a := exampleArguments()
			for _, later := range slices.Backward(names[k:]) {
				all[later].apply(&a)
			}
			y := resultsOf(a)[i]
			if strings.HasPrefix(y.name, "Check") {
				y.values = nil
			}
			y.wantError(t, "with defects of "+strings.Join(names[k:], ", "), all[name].err)
		}
	}
}

// clearAll overwrites a list, and what lies behind it.
func clearAll[T any](l []T) { clear(l[:cap(l)]) }

// clearNet overwrites all lists of a net.
func clearNet(n api.BusNet) {
	for _, f := range n.Functions {
		for _, way := range f.Ways {
			clearAll(way)
		}
		clearAll(f.Ways)
	}
	for _, m := range n.Modes {
		clearAll(m.Needs)
	}
	clearAll(n.Functions)
	clearAll(n.Modes)
	clearAll(n.Parts)
}

// clobber overwrites all lists of arguments.
func clobber(a arguments) {
	clearNet(a.net)
	clearAll(a.bytes)
	clearAll(a.frames)
	clearAll(a.streams)
	clearAll(a.starts)
	clearAll(a.failed)
	clearAll(a.heard)
}

func TestArgumentsAreKept(t *testing.T) {
	a := exampleArguments()
	first := resultsOf(a)
	if !reflect.DeepEqual(a, exampleArguments()) {
		t.Errorf("arguments were modified: %v", a)
	}
	again := resultsOf(a)
	clobber(a)
	if !reflect.DeepEqual(first, again) || !reflect.DeepEqual(first, resultsOf(exampleArguments())) {
		t.Errorf("results depend on something else than arguments: %v, %v", first, again)
	}
	for _, x := range first {
		// Streams that have an order have no overload.
		if x.err != api.OK && x.name != "OverloadIn" {
			t.Errorf("%s of the example: error %d", x.name, x.err)
		}
	}
}

func TestResultsShareNoMemory(t *testing.T) {
	a := exampleArguments()
	first, second := resultsOf(a), resultsOf(a)
	for _, x := range first {
		switch l := x.values[0].(type) {
		case []int:
			clearAll(l)
		case []api.Range:
			clearAll(l)
		case []api.BusStream:
			clearAll(l)
		case api.BusNet:
			clearNet(l)
		}
	}
	if !reflect.DeepEqual(second, resultsOf(exampleArguments())) || !reflect.DeepEqual(a, exampleArguments()) {
		t.Errorf("results share memory: %v, %v", second, a)
	}
	n, _ := bus.ParseNet(netText)
	way, needs := n.Functions[1].Ways[0], n.Modes[0].Needs
	clearAll(way)
	clearAll(needs)
	overwritten := strings.Replace(strings.Replace(netText, "0+2,", "0+0,", 1), "0+1+2", "0+0+0", 1)
	want(t, "ParseNet with some of its lists overwritten", bus.FormatNet(n), api.OK, overwritten, api.OK)
}

func TestSpareCapacityIsKept(t *testing.T) {
	a := exampleArguments()
	bytes, streams, starts := slices.Grow(slices.Clip(a.bytes), 9), slices.Grow(slices.Clip(a.streams), 9), slices.Grow(slices.Clip(a.starts), 9)
	failed, heard, parts := slices.Grow(slices.Clip(a.failed), 9), slices.Grow(slices.Clip(a.heard), 9), slices.Grow(slices.Clip(a.net.Parts), 9)
	needs := slices.Grow(slices.Clip(a.net.Modes[0].Needs), 9)
	a.bytes, a.streams, a.starts, a.failed, a.heard, a.net.Parts, a.net.Modes[0].Needs = bytes, streams, starts, failed, heard, parts, needs
	resultsOf(a)
	for _, l := range []any{bytes[2:9], streams[3:9], starts[3:9], failed[2:9], heard[3:9], parts[4:9], needs[3:9]} {
		for i := range reflect.ValueOf(l).Len() {
			if x := reflect.ValueOf(l).Index(i); !x.IsZero() {
				t.Errorf("memory behind a list was changed: %v", x)
			}
		}
	}
}

// odd is a number of any size, often one at a limit.
func odd(r *rand.Rand) int {
	some := []int{0, 0, 1, 1, -1, 2, 3, 4, 5, 6, 9, 10, 15, 16, 20, 21, 60, 61, 127, 128, 255, 256, 400, 401, 10000, 10001, 1000000000000, 1000000000001, math.MaxInt, math.MinInt, math.MinInt + 1}
	return some[r.IntN(len(some))]
}

func oddList(r *rand.Rand) []int {
	l := make([]int, r.IntN(5))
	for i := range l {
		l[i] = odd(r)
	}
	return l
}

// oddArguments are any ones, valid or not.
func oddArguments(r *rand.Rand) arguments {
	a := arguments{
		message: messageOf(odd(r), odd(r), odd(r), oddList(r)...),
		source:  odd(r),
		stream:  odd(r), ticks: odd(r), function: odd(r), mode: odd(r), timeout: odd(r),
		span:  spanOf(odd(r), odd(r)),
		bytes: oddList(r), starts: oddList(r), failed: oddList(r), heard: oddList(r),
		frames: make([]frame, r.IntN(120)),
	}
	for i := range a.frame {
		a.frame[i] = odd(r)
	}
	name := func() string { return string(rune('a' + r.IntN(26))) }
	for range r.IntN(8) {
		a.streams = append(a.streams, streamOf(name(), odd(r), odd(r), odd(r)))
		a.net.Parts = append(a.net.Parts, name())
		a.net.Functions = append(a.net.Functions, functionOf(name(), oddList(r), oddList(r)))
		a.net.Modes = append(a.net.Modes, modeOf(name(), oddList(r)...))
	}
	return a
}

// mixedArguments are odd ones, of which some are replaced by valid ones.
func mixedArguments(t *testing.T, r *rand.Rand) arguments {
	a := oddArguments(r)
	l, n := randomStreams(r, 6), randomNet(r, 10)
	for _, replace := range []func(){
		func() { a.message, a.bytes = randomMessage(r), randomBytes(r, r.IntN(61)) },
		func() { a.frame = encoded(t, randomMessage(r)) },
		func() { a.frames, a.source = randomFrames(t, r, 60), r.IntN(16) },
		func() { a.streams, a.stream, a.starts = l, r.IntN(len(l)), randomStarts(r, l) },
		func() { a.ticks = r.IntN(401) },
		func() { a.net, a.failed = n, randomSet(r, len(n.Parts), 0) },
		func() { a.function, a.mode = r.IntN(3), r.IntN(3) },
		func() { a.heard, a.span, a.timeout = randomSet(r, 20, 0), spanOf(r.IntN(9), 9+r.IntN(30)), r.IntN(9) },
	} {
		if r.IntN(4) > 0 {
			replace()
		}
	}
	a.texts = [2]string{bus.FormatStreams(a.streams), bus.FormatNet(a.net)}
	return a
}

// TestEveryCallReturns calls everything with anything: beside an error stands no other result, but for an index.
func TestEveryCallReturns(t *testing.T) {
	r := newRandom()
	done := map[string]int{}
	for range 3000 {
		a := mixedArguments(t, r)
		for _, x := range resultsOf(a) {
			done[fmt.Sprint(x.name, " ", x.err == api.OK)]++
			if x.err != api.OK && !strings.HasPrefix(x.name, "Check") && !x.isZero() {
				t.Fatalf("%v: %s: %v beside the error %d", a, x.name, x.values, x.err)
			}
		}
	}
	for _, x := range resultsOf(exampleArguments()) {
		if done[x.name+" true"] < 100 || done[x.name+" false"] < 100 && !strings.HasPrefix(x.name, "Format") {
			t.Errorf("%s: %d calls and %d with errors: too few of one kind are tested", x.name, done[x.name+" true"], done[x.name+" false"])
		}
	}
}
