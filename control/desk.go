package control

import (
	"slices"

	"fiacre/api"
)

// Desk is a desk of a room at work.
type Desk struct {
	setup   api.ControlSetup
	name    string
	journal []api.ControlEntry
}

// OpenDesk returns the desk with a name, with an empty journal.
func OpenDesk(s api.ControlSetup, name string) (*Desk, api.Errno) {
	if e := errorOfSetup(s); e != api.OK {
		return nil, e
	}
	if e := errorOfDesk(s, name); e != api.OK {
		return nil, e
	}
	return &Desk{setup: clonedSetup(s), name: name}, api.OK
}

// Write writes a draft as an entry with the next stamp of the desk.
func (d *Desk) Write(x api.ControlDraft) (api.ControlEntry, api.Errno) {
	if d == nil {
		return api.ControlEntry{}, api.ErrNil
	}
	stamp, e := nextStamp(d.journal, d.name)
	if e != api.OK {
		return api.ControlEntry{}, e
	}
	written := api.ControlEntry{Stamp: stamp, Draft: x}
	if e := errorOfEntry(d.setup, written); e != api.OK {
		return api.ControlEntry{}, e
	}
	d.journal = append(d.journal, written)
	return written, api.OK
}

// Receive joins a journal to that of the desk, and returns how many of its entries were new.
func (d *Desk) Receive(l []api.ControlEntry) (int, api.Errno) {
	if d == nil {
		return 0, api.ErrNil
	}
	if e := errorOfJournals(d.setup, l); e != api.OK {
		return 0, e
	}
	return d.join(l)
}

// join is Receive of a right journal.
func (d *Desk) join(l []api.ControlEntry) (int, api.Errno) {
	all, e := joined(d.journal, l)
	if e != api.OK {
		return 0, e
	}
	more := len(all) - len(d.journal)
	d.journal = all
	return more, api.OK
}

// Journal returns the journal of the desk.
func (d *Desk) Journal() []api.ControlEntry {
	if d == nil {
		return nil
	}
	return slices.Clone(d.journal)
}

// State returns the state that follows from the journal of the desk.
func (d *Desk) State() (api.ControlState, api.Errno) {
	if d == nil {
		return api.ControlState{}, api.ErrNil
	}
	return d.state(), api.OK
}

func (d *Desk) state() api.ControlState { return stateOf(d.setup.Tariff, d.journal) }

// crash leaves so many bytes of the text of the journal, and recovers what is left of it.
func (d *Desk) crash(bytes int) {
	text := FormatJournal(d.journal)
	d.journal, _ = recovered(d.setup, text[:min(bytes, len(text))])
}
