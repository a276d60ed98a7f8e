package control

import (
	"cmp"
	"slices"

	"fiacre/api"
	"fiacre/check"
)

// CheckJournal returns the first error of a journal, and the number of the entry that has it.
func CheckJournal(s api.ControlSetup, l []api.ControlEntry) (int, api.Errno) {
	if e := errorOfSetup(s); e != api.OK {
		return 0, e
	}
	return checkEntries(s, l)
}

// checkEntries is CheckJournal of a right setup.
func checkEntries(s api.ControlSetup, l []api.ControlEntry) (int, api.Errno) {
	return check.List(len(l), api.MaxControlEntries, func(i int) api.Errno { return errorBehind(s, l[:i], l[i]) })
}

// errorOfJournals returns the first error of a setup, and of journals.
func errorOfJournals(s api.ControlSetup, journals ...[]api.ControlEntry) api.Errno {
	if e := errorOfSetup(s); e != api.OK {
		return e
	}
	for _, l := range journals {
		if _, e := checkEntries(s, l); e != api.OK {
			return e
		}
	}
	return api.OK
}

// errorBehind returns the error of an entry behind those that are ahead of it in a journal.
func errorBehind(s api.ControlSetup, ahead []api.ControlEntry, x api.ControlEntry) api.Errno {
	if e := errorOfEntry(s, x); e != api.OK {
		return e
	}
	switch {
	case len(ahead) > 0 && compared(ahead[len(ahead)-1], x) >= 0:
		return api.ErrOrder
	case x.Stamp.Number != entriesOf(ahead, x.Stamp.Desk):
		return api.ErrGap
	}
	return api.OK
}

// compared tells the order of entries by their stamps.
func compared(a, b api.ControlEntry) int {
	return cmp.Or(cmp.Compare(a.Stamp.Clock, b.Stamp.Clock), cmp.Compare(a.Stamp.Desk, b.Stamp.Desk), cmp.Compare(a.Stamp.Number, b.Stamp.Number))
}

// entriesOf returns how many entries of a desk a journal has.
func entriesOf(l []api.ControlEntry, desk string) int {
	many := 0
	for _, x := range l {
		if x.Stamp.Desk == desk {
			many++
		}
	}
	return many
}

// Next returns the next stamp of a desk.
func Next(s api.ControlSetup, l []api.ControlEntry, desk string) (api.ControlStamp, api.Errno) {
	if _, e := CheckJournal(s, l); e != api.OK {
		return api.ControlStamp{}, e
	}
	if e := errorOfDesk(s, desk); e != api.OK {
		return api.ControlStamp{}, e
	}
	return nextStamp(l, desk)
}

// nextStamp is Next of a right journal.
func nextStamp(l []api.ControlEntry, desk string) (api.ControlStamp, api.Errno) {
	clock := 1
	if len(l) > 0 {
		clock = l[len(l)-1].Stamp.Clock + 1
	}
	if len(l) >= api.MaxControlEntries || clock > api.MaxControlClock {
		return api.ControlStamp{}, api.ErrFull
	}
	return api.ControlStamp{Clock: clock, Desk: desk, Number: entriesOf(l, desk)}, api.OK
}

// Joined returns the journal with all entries of two journals.
func Joined(s api.ControlSetup, a, b []api.ControlEntry) ([]api.ControlEntry, api.Errno) {
	if e := errorOfJournals(s, a, b); e != api.OK {
		return nil, e
	}
	return joined(a, b)
}

// joined is Joined of right journals.
func joined(a, b []api.ControlEntry) ([]api.ControlEntry, api.Errno) {
	more, e := lacks(a, b)
	if e != api.OK {
		return nil, e
	}
	if len(a)+len(more) > api.MaxControlEntries {
		return nil, api.ErrLarge
	}
	all := slices.Concat(a, more)
	slices.SortFunc(all, compared)
	return all, api.OK
}

// Lacks returns the entries of the journal b that the journal a has not.
func Lacks(s api.ControlSetup, a, b []api.ControlEntry) ([]api.ControlEntry, api.Errno) {
	if e := errorOfJournals(s, a, b); e != api.OK {
		return nil, e
	}
	return lacks(a, b)
}

// lacks is Lacks of right journals.
func lacks(a, b []api.ControlEntry) ([]api.ControlEntry, api.Errno) {
	known := map[api.ControlKey]api.ControlEntry{}
	for _, x := range a {
		known[keyOf(x)] = x
	}
	var more []api.ControlEntry
	for _, x := range b {
		same, is := known[keyOf(x)]
		switch {
		case !is:
			more = append(more, x)
		case same != x:
			return nil, api.ErrClash
		}
	}
	return more, api.OK
}

// keyOf returns the desk and the number of an entry, which is the key of the trip that it orders.
func keyOf(x api.ControlEntry) api.ControlKey {
	return api.ControlKey{Desk: x.Stamp.Desk, Number: x.Stamp.Number}
}
