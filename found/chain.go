package found

import (
	"fiacre/api"
	"fiacre/check"
)

// stateBehind is the states behind the kinds of events.
var stateBehind = [...]int{
	api.FoundStored:   api.FoundKeptHere,
	api.FoundMoved:    api.FoundKeptHere,
	api.FoundReturned: api.FoundGiven,
	api.FoundTaken:    api.FoundFinders,
	api.FoundSold:     api.FoundGone,
}

// A standing is how it stands with an item behind some of its events.
type standing struct {
	holder string
	state  int
	day    int // of the last event, or of the item
	stored int // the day on which it was stored
}

// begun returns how it stands with an item ahead of its events.
func begun(x api.FoundItem) standing {
	return standing{holder: x.Finder, state: api.FoundOut, day: x.Day}
}

// behind returns how it stands behind one event more.
func (s standing) behind(x api.FoundEvent) standing {
	if x.Kind == api.FoundStored {
		s.stored = x.Day
	}
	s.holder, s.state, s.day = x.To, stateBehind[x.Kind], x.Day
	return s
}

func (s standing) isDone() bool { return s.state != api.FoundOut && s.state != api.FoundKeptHere }

// right returns who has the right to the item on a day.
func (s standing) right(day int) int {
	kept := day - s.stored
	switch {
	case s.isDone():
		return api.FoundNobody
	case s.state == api.FoundOut || kept <= api.FoundKeep:
		return api.FoundOwners
	case kept <= api.FoundKeep+api.FoundTake:
		return api.FoundFindersRight
	}
	return api.FoundOffice
}

// CheckChain returns the first error of the chain of an item, and the number of the event that has it.
func CheckChain(x api.FoundItem, l []api.FoundEvent) (int, api.Errno) {
	if e := CheckItem(x); e != api.OK {
		return 0, e
	}
	s := begun(x)
	return check.List(len(l), api.MaxFoundEvents, func(i int) api.Errno {
		if e := check.First(errorOfEvent(x, l[i]), s.errorOfNext(x, l[i])); e != api.OK {
			return e
		}
		s = s.behind(l[i])
		return api.OK
	})
}

func errorOfChain(x api.FoundItem, l []api.FoundEvent) api.Errno {
	_, e := CheckChain(x, l)
	return e
}

// errorOfEvent returns the error that an event of an item has whatever was before.
func errorOfEvent(x api.FoundItem, event api.FoundEvent) api.Errno {
	switch {
	case event.Item != x.Name:
		return api.ErrMissing
	case errorOfDay(event.Day, 0) != api.OK:
		return api.ErrRange
	case !isKind(event.Kind):
		return api.ErrKind
	case !areNames(event.From, event.To):
		return api.ErrName
	}
	return api.OK
}

// errorOfNext returns the error of an event of an item as the next one.
func (s standing) errorOfNext(x api.FoundItem, event api.FoundEvent) api.Errno {
	first, stored := s.state == api.FoundOut, event.Kind == api.FoundStored
	switch {
	case event.Day < s.day:
		return api.ErrOrder
	case stored != first || s.isDone():
		return api.ErrState
	case event.From != s.holder:
		return api.ErrClash
	case event.Kind == api.FoundTaken && event.To != x.Finder:
		return api.ErrAllowed
	case event.Kind == api.FoundTaken && s.right(event.Day) != api.FoundFindersRight:
		return api.ErrLate
	case event.Kind == api.FoundSold && s.right(event.Day) != api.FoundOffice:
		return api.ErrLate
	}
	return api.OK
}

func isKind(kind int) bool { return check.Within(kind, 0, len(stateBehind)-1) }

// HolderAt returns who has an item at the end of a day.
func HolderAt(x api.FoundItem, l []api.FoundEvent, day int) (string, api.Errno) {
	if e := errorOfDayIn(x, l, day); e != api.OK {
		return "", e
	}
	return standingAt(x, l, day).holder, api.OK
}

// StateAt returns the state of an item at the end of a day.
func StateAt(x api.FoundItem, l []api.FoundEvent, day int) (int, api.Errno) {
	if e := errorOfDayIn(x, l, day); e != api.OK {
		return 0, e
	}
	return standingAt(x, l, day).state, api.OK
}

// RightAt returns who has the right to an item on a day.
func RightAt(x api.FoundItem, l []api.FoundEvent, day int) (int, api.Errno) {
	if e := errorOfDayIn(x, l, day); e != api.OK {
		return 0, e
	}
	return standingAt(x, l, day).right(day), api.OK
}

// errorOfDayIn returns the first error of an item, its chain, and a day of it.
func errorOfDayIn(x api.FoundItem, l []api.FoundEvent, day int) api.Errno {
	return check.First(errorOfChain(x, l), errorOfDay(day, x.Day))
}

// standingAt returns how it stands with an item at the end of a day.
func standingAt(x api.FoundItem, l []api.FoundEvent, day int) standing {
	s := begun(x)
	for _, event := range l {
		if event.Day > day {
			break
		}
		s = s.behind(event)
	}
	return s
}
