package ship

import (
	"slices"
	"strings"

	"moonpool/api"
	"moonpool/dive"
	"moonpool/fix"
	"moonpool/rules"
)

// ReportOf is in P10.5.
func ReportOf(n api.ShipNet, l []api.ShipEntry) (string, api.Errno) {
	h, _, e := replayed(n, l)
	if e != api.OK {
		return "", e
	}
	var reports []string
	for i, d := range h.Dives {
		if !d.Open {
			reports = append(reports, h.reportOf(i))
		}
	}
	return strings.Join(reports, ";"), api.OK
}

// reportOf is what the report has for a dive.
func (h *house) reportOf(i int) string {
	d := h.Dives[i]
	var taken []int
	for _, s := range h.Samples {
		if s.Dive == i && isTaken(s) {
			taken = append(taken, s.Taken)
		}
	}
	slices.Sort(taken)
	return dive.FormatPlan(d.Tasks) + "/" + fix.FormatBox(d.Box) + "/" + rules.Written(taken...)
}
