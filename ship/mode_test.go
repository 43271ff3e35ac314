package ship_test

import (
	"fmt"
	"testing"

	"moonpool/api"
	"moonpool/ship"
)

// P10.2 (fault, repair), P10.3 (ModeOf)

func TestFaults(t *testing.T) {
	faulty := logOf("1 pia fault gyro")
	both := more(faulty, "2 pim fault main")
	wantEntered(t, exampleNet(), []entered{
		{nil, "1 pia fault gyro", api.OK},
		{nil, "1 pia fault dvl", api.ErrMissing},
		{nil, "1 pia fault Gyro", api.ErrMissing},
		{nil, "1 pia fault 1", api.ErrMissing},
		{faulty, "1 pim fault gyro", api.ErrDouble},
		{faulty, "1 pim fault main", api.OK},
		{nil, "1 kim repair dvl", api.ErrMissing},
		{nil, "1 kim repair gyro", api.ErrState},
		{faulty, "1 kim repair gyro", api.OK},
		{faulty, "1 kim repair main", api.ErrState},
		{both, "2 kim repair main", api.OK},
		{more(both, "3 kim repair gyro"), "4 kim repair gyro", api.ErrState},
		{more(both, "3 kim repair gyro"), "4 pia fault gyro", api.OK},
	})
}

// TestModes is for the failed parts and the mode after faults, in any order, and repairs.
func TestModes(t *testing.T) {
	l := logOf("1 pia fault dvl", "2 pia fault main", "3 tom repair dvl", "4 pia fault gyro", "5 pim fault spare", "6 kim repair main", "7 kim repair spare", "8 kim repair gyro")
	for i, c := range []struct {
		failed []int
		mode   int
		err    api.Errno
	}{
		{nil, 0, api.OK},
		{[]int{3}, 1, api.OK},
		{[]int{0, 3}, 1, api.OK},
		{[]int{0}, 0, api.OK},
		{[]int{0, 2}, 2, api.OK},
		{[]int{0, 1, 2}, 0, api.ErrNone},
		{[]int{1, 2}, 2, api.OK},
		{[]int{2}, 2, api.OK},
		{nil, 0, api.OK},
	} {
		want(t, fmt.Sprint("Failed after ", i), stateOf(t, greatNet(), l[:i]).Failed, api.OK, c.failed, api.OK)
		mode, e := ship.ModeOf(greatNet(), l[:i])
		want(t, fmt.Sprint("ModeOf after ", i), mode, e, c.mode, c.err)
	}
	modeless := changed(func(n *api.ShipNet) { n.Bus.Modes = nil })
	mode, e := ship.ModeOf(modeless, nil)
	want(t, "ModeOf without modes", mode, e, 0, api.ErrNone)
}

// TestWorks is whether tasks are permitted up to the mode Works alone.
func TestWorks(t *testing.T) {
	faults := [][]api.ShipEntry{nil, logOf("4 pia fault dvl"), logOf("4 pia fault gyro"), logOf("4 pia fault main", "4 pia fault spare")}
	for mode, l := range faults {
		for works := range 7 {
			n := greatNet()
			n.Works = works
			err := api.OK
			if mode > works || mode == 3 {
				err = api.ErrBreak
			}
			wantEntered(t, n, []entered{{append(openLog(), l...), "5 pia task 0", err}, {append(more(readyLog(), "3 pia note "), l...), "5 pia begin 1", err}})
		}
	}
}
