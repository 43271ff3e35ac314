package ship_test

import (
	"fmt"
	"math"
	"math/rand/v2"
	"slices"
	"testing"

	"moonpool/api"
	"moonpool/dive"
	"moonpool/fix"
	"moonpool/ship"
)

// P10.2 (permit, sign, begin, move, task, handover, home), P10.3 (DiveOf), P10.4, P10.11, P10.12

func TestPermits(t *testing.T) {
	full := divesLog(0)
	wantEntered(t, exampleNet(), []entered{
		{nil, "1 kim permit 0 1", api.OK},
		{nil, "1 kim permit 0", api.OK},
		{nil, "1 kim permit ", api.OK},
		{nil, "1 kim permit x", api.ErrSyntax},
		{nil, "1 kim permit 0 ", api.ErrSyntax},
		{nil, "1 kim permit  0", api.ErrSyntax},
		{nil, "1 kim permit 0  1", api.ErrSyntax},
		{nil, "1 kim permit 2 x", api.ErrSyntax},
		{nil, "1 kim permit 100", api.ErrSyntax},
		{nil, "1 kim permit 2", api.ErrMissing},
		{nil, "1 kim permit 0 99", api.ErrMissing},
		{nil, "1 kim permit 0 0", api.ErrDouble},
		{nil, "1 kim permit 1 0", api.ErrOrder},
		{full, "1 kim permit x", api.ErrSyntax},
		{full, "1 kim permit 2", api.ErrMissing},
		{full, "1 kim permit ", api.ErrFull},
		{divesLog(1), "1 kim permit 0", api.ErrFull},
		{full[1:], "1 kim permit 0 1", api.OK},
	})
	for oil, err := range []api.Errno{api.ErrZero, api.OK} {
		n := changed(func(n *api.ShipNet) { n.Begin.Oil = oil })
		wantEntered(t, n, []entered{{nil, "1 kim permit 0", err}, {nil, "1 kim permit ", api.OK}})
	}
	late := changed(func(n *api.ShipNet) { n.Begin.At = 101 })
	wantEntered(t, late, []entered{{nil, "1 kim permit 0", api.ErrBreak}})
	poor := changed(func(n *api.ShipNet) { n.Begin.Power = 24 })
	wantEntered(t, poor, []entered{{nil, "1 kim permit 0", api.ErrRefused}, {nil, "1 kim permit ", api.OK}})
	done := changed(func(n *api.ShipNet) { n.Begin.Done = []int{0} })
	wantEntered(t, done, []entered{{nil, "1 kim permit 0", api.ErrDouble}, {nil, "1 kim permit 1", api.OK}})
}

func TestSignatures(t *testing.T) {
	wantEntered(t, exampleNet(), []entered{
		{nil, "1 pia sign 1", api.ErrMissing},
		{readyLog()[:1], "1 pia sign 0", api.ErrMissing},
		{readyLog()[:1], "1 pia sign 2", api.ErrMissing},
		{readyLog()[:1], "1 kim sign 1", api.OK},
		{readyLog()[:2], "2 pia sign 1", api.ErrDouble},
		{readyLog()[:2], "2 pim sign 1", api.OK},
		{readyLog(), "2 kim sign 1", api.OK},
		{readyLog(), "2 pim sign 1", api.ErrDouble},
		{openLog(), "3 pia sign 1", api.ErrState},
		{openLog(), "3 kim sign 1", api.ErrState},
		{openLog(), "3 kim sign 2", api.ErrMissing},
		{more(openLog(), "4 kim permit 0"), "5 pia sign 2", api.OK},
	})
	s := stateOf(t, exampleNet(), more(readyLog(), "2 kim permit 0", "3 pim sign 2", "3 kim sign 1"))
	want(t, "permits", s.Permits, api.OK, []api.ShipPermit{{Plan: []int{0, 1}, Signed: []string{"pia", "pim", "kim"}}, {Plan: []int{0}, Signed: []string{"pim"}}}, api.OK)
}

func TestBegin(t *testing.T) {
	ready := more(readyLog(), "2 kim permit 0", "2 pia sign 2", "2 pim sign 2")
	faulty := more(ready, "2 pia fault gyro")
	begun := more(ready, "3 pia begin 1")
	wantEntered(t, exampleNet(), []entered{
		{readyLog(), "3 pia begin 1", api.OK},
		{readyLog(), "3 pim begin 1", api.OK},
		{ready, "3 pim begin 2", api.OK},
		{readyLog(), "3 pia begin 0", api.ErrMissing},
		{readyLog(), "3 pia begin 2", api.ErrMissing},
		{begun, "3 pia begin 3", api.ErrMissing},
		{begun, "3 kim begin 1", api.ErrState},
		{readyLog(), "3 kim begin 1", api.ErrRefused},
		{readyLog()[:2], "3 pia begin 1", api.ErrRefused},
		{readyLog()[:2], "3 pim begin 1", api.ErrRefused},
		{readyLog()[:1], "3 pia begin 1", api.ErrRefused},
		{begun, "3 kim begin 2", api.ErrRefused},
		{begun, "3 pia begin 2", api.ErrBusy},
		{begun, "3 pim begin 2", api.ErrBusy},
		{more(begun, "3 pia fault main"), "3 pia begin 2", api.ErrBusy},
		{faulty, "3 kim begin 2", api.ErrRefused},
		{faulty, "3 pia begin 2", api.ErrBreak},
		{more(faulty, "3 kim repair gyro"), "3 pia begin 2", api.OK},
		{more(begun, "4 pia home"), "4 pia begin 2", api.OK},
		{more(begun, "4 pia home"), "4 pia begin 1", api.ErrState},
		{divesLog(5), "4 pia begin 6", api.ErrRefused},
		{more(divesLog(5), "4 pia sign 6", "4 pim sign 6"), "4 pia begin 6", api.OK},
		{divesLog(6), "4 pia begin 6", api.ErrState},
	})
	tolerant := changed(func(n *api.ShipNet) { n.Works = 1 })
	wantEntered(t, tolerant, []entered{{faulty, "3 pia begin 2", api.OK}, {more(faulty, "2 pia fault main"), "3 pia begin 2", api.ErrBreak}})
	modeless := changed(func(n *api.ShipNet) { n.Bus.Modes = nil })
	wantEntered(t, modeless, []entered{{ready, "3 pia begin 2", api.ErrBreak}, {ready, "3 kim begin 2", api.ErrRefused}})
}

// TestDivesBegin is whether each dive begins as the net says, whatever happened before.
func TestDivesBegin(t *testing.T) {
	n := greatNet()
	n.Begin.Done = []int{2}
	l := logOf("1 kim permit 0 1", "1 kim permit 1", "2 pia sign 1", "2 pim sign 1", "2 pim sign 2", "2 pat sign 2",
		"3 pia begin 1", "4 pia move 2 0 1 0 1 0 1/0", "5 pia task 0", "6 pia handover tom", "7 tom home", "8 pat begin 2")
	s := stateOf(t, n, l)
	states := must(dive.StatesOf(n.Site, n.Begin, []int{0}))
	want(t, "dives", s.Dives, api.OK, []api.ShipDive{
		{Permit: 0, Pilot: "tom", State: states[1], Box: boxOf(0, 3, 0, 2, 0, 2), Tasks: []int{0}},
		{Permit: 1, Pilot: "pat", State: n.Begin, Box: n.Start, Open: true},
	}, api.OK)
}

func TestMoves(t *testing.T) {
	n := greatNet()
	slow := "4 pia move 1 0 1 0 0 0 0/0"
	wantEntered(t, n, []entered{
		{readyLog(), "4 pia move x", api.ErrNone},
		{more(openLog(), "4 pia home"), slow, api.ErrNone},
		{openLog(), "4 pim move x", api.ErrState},
		{openLog(), "4 kim move 1 0 1 0 0 0 0/0", api.ErrState},
		{openLog(), slow, api.OK},
		{openLog(), "4 pia move ", api.ErrSyntax},
		{openLog(), "4 pia move x", api.ErrSyntax},
		{openLog(), "4 pia move 1 0 1 0 0 0 0", api.ErrSyntax},
		{openLog(), slow + " ", api.ErrSyntax},
		{openLog(), "4 pia move 1001 0 1 0 0 0 0/0", api.ErrRange},
		{openLog(), "4 pia move 1 2 1 0 0 0 0/0", api.ErrOrder},
		{openLog(), "4 pia move 1 0 1 0 0 0 0/1", api.ErrRange},
		{openLog(), "4 pia move 1 0 1 0 0 0 0/0;axis 3 0 1", api.ErrMissing},
		{openLog(), "4 pia move 1 0 1 0 0 0 0/0;range 1 0 1", api.ErrMissing},
		{openLog(), "4 pia move 1 0 1 0 0 0 0/0;range 0 -1 1", api.ErrRange},
		{openLog(), "4 pia move 1 0 1 0 0 0 0/0;range 0 2 1", api.ErrOrder},
		{openLog(), "4 pia move 1 0 1 0 0 0 0/0;range 0 1 1", api.OK},
		{openLog(), "4 pia move 1 0 1 0 0 0 0/0;range 0 0 0", api.ErrNone},
		{openLog(), "4 pia move 1 0 1 0 0 0 0/0;axis 0 3 9", api.ErrNone},
		{openLog(), "4 pia move 1 0 1 0 0 0 0/1;axis 0 3 9", api.OK},
		{openLog(), "4 pia move 1 9 9 0 0 0 0/0", api.ErrNone},
		{openLog(), "4 pia move 1 9 9 0 0 0 0/0;axis 3 0 1", api.ErrMissing},
		{more(openLog(), "4 pia fault main", "4 pia fault spare"), slow, api.OK},
	})
	wide := changed(func(n *api.ShipNet) { n.Fix.World = boxOf(-1000, 1000, -1000, 1000, 0, 0) })
	wantEntered(t, wide, []entered{{openLog(), "4 pia move 100 -1 1 -1 1 0 0/0", api.ErrLarge}, {openLog(), "4 pia move 70 -1 1 -1 1 0 0/0", api.OK}})
	l := more(openLog(), slow, "5 pia move 1 -1 0 0 1 0 0/0;range 0 2 3", "6 pia move 1 9 9 0 0 0 0/1;axis 0 3 9")
	for i, box := range []api.FixBox{n.Start, boxOf(0, 2, 0, 0, 0, 0), boxOf(0, 1, 0, 1, 0, 0)} {
		s := stateOf(t, n, l[:4+i])
		want(t, fmt.Sprint("the box after ", i, " moves"), s.Dives[0].Box, api.OK, box, api.OK)
	}
}

func TestTasks(t *testing.T) {
	did := more(openLog(), "4 pia task 0")
	all := more(did, "4 pia task 1")
	short := logOf("1 kim permit ", "2 pia sign 1", "2 pim sign 1", "3 pia begin 1")
	faulty := more(openLog(), "4 pim fault gyro")
	wantEntered(t, exampleNet(), []entered{
		{readyLog(), "4 pia task 0", api.ErrNone},
		{more(did, "5 pia home"), "5 pia task 1", api.ErrNone},
		{openLog(), "4 pim task 1", api.ErrState},
		{faulty, "4 pim task 0", api.ErrState},
		{faulty, "4 pia task 1", api.ErrBreak},
		{faulty, "4 pia task 0", api.ErrBreak},
		{more(faulty, "5 kim repair gyro"), "5 pia task 0", api.OK},
		{openLog(), "4 pia task 0", api.OK},
		{openLog(), "4 pia task 1", api.ErrClash},
		{openLog(), "4 pia task 2", api.ErrClash},
		{did, "4 pia task 0", api.ErrClash},
		{did, "4 pia task 1", api.OK},
		{all, "4 pia task 0", api.ErrClash},
		{all, "4 pia task 1", api.ErrClash},
		{all, "4 pia task 2", api.ErrClash},
		{short, "4 pia task 0", api.ErrClash},
	})
	for i, state := range []string{"0 0 100 2/", "0 10 95 1/0", "0 15 90 1/0 1"} {
		s := stateOf(t, exampleNet(), all[:4+i])
		want(t, fmt.Sprint("the state after ", i, " tasks"), s.Dives[0].State, api.OK, must(dive.ParseState(state)), api.OK)
		want(t, fmt.Sprint("the tasks after ", i, " tasks"), s.Dives[0].Tasks, api.OK, []int{0, 1}[:i], api.OK)
	}
}

func TestHandover(t *testing.T) {
	handed := more(openLog(), "4 pia handover pim")
	wantEntered(t, exampleNet(), []entered{
		{readyLog(), "4 pia handover zoe", api.ErrNone},
		{more(openLog(), "4 pia home"), "4 pia handover pim", api.ErrNone},
		{openLog(), "4 pim handover zoe", api.ErrState},
		{openLog(), "4 kim handover kim", api.ErrState},
		{openLog(), "4 pia handover zoe", api.ErrMissing},
		{openLog(), "4 pia handover sam", api.ErrAllowed},
		{openLog(), "4 pia handover gus", api.ErrAllowed},
		{openLog(), "4 pia handover pia", api.ErrDouble},
		{openLog(), "4 pia handover kim", api.OK},
		{openLog(), "4 pia handover pim", api.OK},
		{handed, "5 pim task 0", api.OK},
		{handed, "5 pia task 0", api.ErrState},
		{handed, "5 pim home", api.OK},
		{handed, "5 pia home", api.ErrState},
		{handed, "5 pia handover pia", api.ErrState},
		{handed, "5 pim handover pia", api.OK},
		{more(handed, "5 pim fault main"), "5 pim handover pia", api.OK},
	})
}

func TestHome(t *testing.T) {
	wantEntered(t, exampleNet(), []entered{
		{nil, "4 pia home", api.ErrNone},
		{readyLog(), "4 pia home", api.ErrNone},
		{openLog(), "4 pim home", api.ErrState},
		{openLog(), "4 pia home", api.OK},
		{more(openLog(), "4 pia home"), "4 pia home", api.ErrNone},
		{more(openLog(), "4 pia fault main", "4 pia fault gyro"), "5 pia home", api.OK},
	})
	s := stateOf(t, exampleNet(), more(openLog(), "4 pia home"))
	want(t, "a dive without tasks", s.Dives, api.OK, []api.ShipDive{{Pilot: "pia", State: exampleNet().Begin}}, api.OK)
}

func TestDiveOf(t *testing.T) {
	l := divesLog(3)
	s := stateOf(t, exampleNet(), l)
	for i, d := range s.Dives {
		got, e := ship.DiveOf(exampleNet(), l, i+1)
		want(t, fmt.Sprint("DiveOf ", i+1), got, e, d, api.OK)
		want(t, "its permit", got.Permit, api.OK, i, api.OK)
		back, e := ship.ReturnOf(exampleNet(), l, i+1)
		want(t, fmt.Sprint("ReturnOf ", i+1), back, e, api.DiveReturn{Ticks: 10, Power: 10}, api.OK)
	}
	for _, number := range []int{0, 4, -1, math.MaxInt, math.MinInt} {
		got, e := ship.DiveOf(exampleNet(), l, number)
		want(t, fmt.Sprint("DiveOf ", number), got, e, api.ShipDive{}, api.ErrMissing)
		back, e := ship.ReturnOf(exampleNet(), l, number)
		want(t, fmt.Sprint("ReturnOf ", number), back, e, api.DiveReturn{}, api.ErrMissing)
		box, e := ship.BoxAt(exampleNet(), l, lookOf(number, 99))
		want(t, fmt.Sprint("BoxAt in ", number), box, e, api.FixBox{}, api.ErrMissing)
	}
}

func TestBoxAt(t *testing.T) {
	for _, c := range []struct {
		look api.ShipLook
		box  api.FixBox
		err  api.Errno
	}{
		{lookOf(1, 10), api.FixBox{}, api.OK},
		{lookOf(1, 11), diveBox(), api.OK},
		{lookOf(1, 29), diveBox(), api.OK},
		{lookOf(1, 1000000000000), diveBox(), api.OK},
		{lookOf(1, 9), api.FixBox{}, api.ErrMissing},
		{lookOf(1, 0), api.FixBox{}, api.ErrMissing},
		{lookOf(2, 30), api.FixBox{}, api.ErrMissing},
		{lookOf(0, 30), api.FixBox{}, api.ErrMissing},
		{lookOf(1, -1), api.FixBox{}, api.ErrRange},
		{lookOf(0, 1000000000001), api.FixBox{}, api.ErrRange},
		{lookOf(math.MinInt, math.MinInt), api.FixBox{}, api.ErrRange},
	} {
		b, e := ship.BoxAt(exampleNet(), exampleLog(), c.look)
		want(t, fmt.Sprint("BoxAt ", c.look), b, e, c.box, c.err)
	}
}

func TestReturnOf(t *testing.T) {
	n := greatNet()
	l := more(openLog(), "4 pia task 0", "5 pia task 1")
	for i, back := range []api.DiveReturn{{Ticks: 30, Power: 60}, {Ticks: 40, Power: 80}, {Ticks: 50, Power: 100}} {
		got, e := ship.ReturnOf(n, l[:4+i], 1)
		want(t, fmt.Sprint("ReturnOf after ", i, " tasks"), got, e, back, api.OK)
	}
}

// TestAlwaysHome follows the tasks of dives.
func TestAlwaysHome(t *testing.T) {
	r := newRandom()
	tasks := 0
	for range 300 {
		n := randomNet(r)
		l := randomLog(r, n, 40)
		s := stateOf(t, n, l)
		for i, d := range s.Dives {
			what := fmt.Sprint("the dive ", i+1, " of ", l)
			p := s.Permits[d.Permit]
			states, e := dive.StatesOf(n.Site, n.Begin, d.Tasks)
			want(t, "the state of "+what, d.State, e, states[len(states)-1], api.OK)
			if !slices.Equal(d.Tasks, p.Plan[:len(d.Tasks)]) {
				t.Errorf("%s: %v is no beginning of %v", what, d.Tasks, p.Plan)
			}
			begun := beginOf(l, i)
			if signed := signers(l[:begun], d.Permit); len(signed) < 2 || !slices.Contains(signed, l[begun].By) {
				t.Errorf("%s was begun by %s, and signed by %v", what, l[begun].By, signed)
			}
			before, _ := dive.CanReturn(n.Site, n.Begin)
			after, e := dive.CanReturn(n.Site, d.State)
			if e != api.OK || before && !after {
				t.Errorf("%s can't return from %v", what, d.State)
			}
			tasks += len(d.Tasks)
		}
	}
	if tasks < 50 {
		t.Errorf("only %d tasks were done", tasks)
	}
}

// beginOf is the index of the entry with which a dive begins.
func beginOf(l []api.ShipEntry, dive int) int {
	for i, e := range l {
		if firstOf(e) == "begin" {
			if dive == 0 {
				return i
			}
			dive--
		}
	}
	return -1
}

// signers are those who have signed a permit.
func signers(l []api.ShipEntry, permit int) []string {
	var names []string
	for _, e := range l {
		if e.Text == fmt.Sprint("sign ", permit+1) && !slices.Contains(names, e.By) {
			names = append(names, e.By)
		}
	}
	return names
}

// TestWhereItIs follows true positions through the moves of dives.
func TestWhereItIs(t *testing.T) {
	r := newRandom()
	paths := 0
	for range 100 {
		n := greatNet()
		l := readyLog()
		l = more(l, "3 pia begin 1")
		for tick := range 6 {
			if longer, e := ship.Appended(n, l, entryOf(4+tick, "pia", "move "+randomMove(r))); e == api.OK {
				l = longer
			}
		}
		steps := stepsOf(l)
		for range 20 {
			path, ok := randomPath(r, n, steps)
			if !ok {
				continue
			}
			paths++
			is, e := fix.IsPath(n.Fix, n.Start, steps, path)
			want(t, fmt.Sprint("IsPath of ", path), is, e, true, api.OK)
			for i, p := range path {
				b, e := ship.BoxAt(n, l, lookOf(1, l[3+i].At))
				if e != api.OK || !isIn(p, b) {
					t.Errorf("%v, after %d moves of %v, is not in %v, error %d", p, i, l, b, e)
				}
			}
			if d, _ := ship.DiveOf(n, l, 1); !isIn(path[len(path)-1], d.Box) {
				t.Errorf("%v does not end in %v", path, d.Box)
			}
		}
	}
	if paths < 200 {
		t.Errorf("only %d paths were found", paths)
	}
}

// randomPath is one through steps. It is false if it comes to a position from which there is no way on.
func randomPath(r *rand.Rand, n api.ShipNet, steps []api.FixStep) ([]api.FixPlace, bool) {
	at := api.FixPlace{X: one(r, 0, 1)}
	path := []api.FixPlace{at}
	for _, s := range steps {
		var next []api.FixPlace
		for x := -4; x <= 4; x++ {
			for y := -3; y <= 3; y++ {
				for z := 0; z <= 5; z++ {
					p := api.FixPlace{X: x, Y: y, Z: z}
					agreeing, _ := fix.AgreeingWith(n.Fix, s.Vote.Readings, p)
					wrong := len(s.Vote.Readings) - len(agreeing)
					if leads(at, p, s.Move) && wrong <= s.Vote.Wrong {
						next = append(next, p)
					}
				}
			}
		}
		if len(next) == 0 {
			return nil, false
		}
		at = one(r, next...)
		path = append(path, at)
	}
	return path, true
}

// leads is whether a move leads from one position to another one.
func leads(from, to api.FixPlace, m api.FixMove) bool {
	leads := func(by int, speed api.Range) bool { return m.Ticks*speed.Lo <= by && by <= m.Ticks*speed.Hi }
	return leads(to.X-from.X, m.Speed.X) && leads(to.Y-from.Y, m.Speed.Y) && leads(to.Z-from.Z, m.Speed.Z)
}
