package ship

import (
	"slices"

	"moonpool/api"
)

// Desk is a net, and the log that was entered.
type Desk struct {
	net api.ShipNet
	log []api.ShipEntry
}

// New is in P10.8.
func New(n api.ShipNet) (*Desk, api.Errno) {
	if e := netError(n); e != api.OK {
		return nil, e
	}
	return &Desk{net: copyOf(n)}, api.OK
}

// Enter is in P10.8.
func (d *Desk) Enter(at int, by, text string) api.Errno {
	if d == nil {
		return api.ErrNil
	}
	l, e := Appended(d.net, d.log, api.ShipEntry{At: at, By: by, Text: text})
	if e != api.OK {
		return e
	}
	d.log = l
	return api.OK
}

// Undo is in P10.8.
func (d *Desk) Undo() api.Errno {
	if d == nil {
		return api.ErrNil
	}
	if len(d.log) == 0 {
		return api.ErrNone
	}
	d.log = d.log[:len(d.log)-1]
	return api.OK
}

// Log is in P10.8.
func (d *Desk) Log() []api.ShipEntry {
	if d == nil {
		return nil
	}
	return slices.Clone(d.log)
}

// Answer is in P10.8.
func (d *Desk) Answer(question string) (string, api.Errno) {
	if d == nil {
		return "", api.ErrNil
	}
	return Answer(d.net, d.log, question)
}

// Journal is in P10.8.
func (d *Desk) Journal() string {
	if d == nil {
		return ""
	}
	journal, _ := Journal(d.net, d.log)
	return journal
}
