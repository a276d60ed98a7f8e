package duty

import (
	"slices"

	"fiacre/api"
	"fiacre/check"
	"fiacre/words"
)

// maxEvery is how many days there are at most from one inspection to the next one.
const maxEvery = 1000

// CheckLicences returns the first error of licences, and the number of the licence that has it.
func CheckLicences(l []api.DutyLicence) (int, api.Errno) {
	return check.List(len(l), api.MaxDutyList, func(i int) api.Errno {
		x := l[i]
		switch {
		case !words.IsName(x.Kind):
			return api.ErrName
		case !isDate(x.From) || !isDate(x.To):
			return api.ErrRange
		case x.To < x.From:
			return api.ErrOrder
		}
		return api.OK
	})
}

func errorOfLicences(l []api.DutyLicence) api.Errno {
	_, e := CheckLicences(l)
	return e
}

// Holds returns whether a licence of a kind holds on a date.
func Holds(l []api.DutyLicence, kind string, date int) (bool, api.Errno) {
	if e := check.First(errorOfLicences(l), errorOfKind(kind), errorOfDate(date)); e != api.OK {
		return false, e
	}
	return holds(l, kind, date), api.OK
}

func holds(l []api.DutyLicence, kind string, date int) bool { return heldUpTo(l, kind, date) >= date }

// heldUpTo returns the last date of the licences of a kind that hold on a date, or the date ahead if none does.
func heldUpTo(l []api.DutyLicence, kind string, date int) int {
	last := date - 1
	for _, x := range l {
		if x.Kind == kind && check.Within(date, x.From, x.To) {
			last = max(last, x.To)
		}
	}
	return last
}

// Lapses returns the last date up to which, from a date on, a licence of a kind holds on each date.
func Lapses(l []api.DutyLicence, kind string, date int) (int, api.Errno) {
	if e := check.First(errorOfLicences(l), errorOfKind(kind), errorOfDate(date)); e != api.OK {
		return 0, e
	}
	if !holds(l, kind, date) {
		return 0, api.ErrNone
	}
	last := date
	for holds(l, kind, last+1) {
		last = heldUpTo(l, kind, last+1)
	}
	return last, api.OK
}

// MayDrive returns the first kind of which no licence holds on a date, or "" if there is none.
func MayDrive(l []api.DutyLicence, kinds []string, date int) (string, api.Errno) {
	if e := check.First(errorOfLicences(l), errorOfKinds(kinds), errorOfDate(date)); e != api.OK {
		return "", e
	}
	for _, kind := range kinds {
		if !holds(l, kind, date) {
			return kind, api.OK
		}
	}
	return "", api.OK
}

func errorOfKinds(kinds []string) api.Errno {
	_, e := check.List(len(kinds), api.MaxDutyList, func(i int) api.Errno { return errorOfKind(kinds[i]) })
	return e
}

func errorOfKind(kind string) api.Errno {
	if !words.IsName(kind) {
		return api.ErrName
	}
	return api.OK
}

// NextInspection returns the date up to which a car may be driven.
func NextInspection(done []int, every, date int) (int, api.Errno) {
	if e := check.First(errorOfInspections(done), errorOfEvery(every), errorOfDate(date)); e != api.OK {
		return 0, e
	}
	behind, found := slices.BinarySearch(done, date)
	if found {
		behind++
	}
	if behind == 0 {
		return 0, api.ErrNone
	}
	next := done[behind-1] + every
	if date > next {
		return 0, api.ErrState
	}
	return next, api.OK
}

func errorOfInspections(done []int) api.Errno {
	_, e := check.List(len(done), api.MaxDutyList, func(i int) api.Errno {
		if e := errorOfDate(done[i]); e != api.OK || i == 0 {
			return e
		}
		if done[i] <= done[i-1] {
			return api.ErrOrder
		}
		return api.OK
	})
	return e
}

func errorOfEvery(every int) api.Errno {
	if !check.Within(every, 1, maxEvery) {
		return api.ErrRange
	}
	return api.OK
}

func errorOfDate(date int) api.Errno {
	if !isDate(date) {
		return api.ErrRange
	}
	return api.OK
}

func isDate(date int) bool { return check.Within(date, 0, api.MaxDate) }
