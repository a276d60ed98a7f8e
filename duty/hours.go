package duty

import (
	"slices"

	"fiacre/api"
	"fiacre/check"
)

// week is how many seconds the rule DutyWeek looks back.
const week = api.Week * api.Day

// A book is right records of a driver, with right rules for them.
type book struct {
	api.DutyRules
	records []api.DutyRecord
}

// bookOf returns the book of rules and records, or their first error.
func bookOf(r api.DutyRules, l []api.DutyRecord) (book, api.Errno) {
	if e := check.First(CheckRules(r), errorOfRecords(l)); e != api.OK {
		return book{}, e
	}
	return book{DutyRules: r, records: l}, api.OK
}

// Stints returns the first and the last record of each stint.
func Stints(r api.DutyRules, l []api.DutyRecord) ([][2]int, api.Errno) {
	b, e := bookOf(r, l)
	return groups(b.records, endedBy(r.Break)), e
}

// Shifts returns the first and the last record of each shift.
func Shifts(r api.DutyRules, l []api.DutyRecord) ([][2]int, api.Errno) {
	b, e := bookOf(r, l)
	return groups(b.records, endedBy(r.Rest)), e
}

// groups returns the first and the last number of each group of neighbours in a list; ends tells whether a group ends between two of them.
func groups[T any](list []T, ends func(before, x T) bool) [][2]int {
	var all [][2]int
	for i := range list {
		if i == 0 || ends(list[i-1], list[i]) {
			all = append(all, [2]int{i, i})
		}
		all[len(all)-1][1] = i
	}
	return all
}

// endedBy returns a function that tells whether the gap between two records is at least so long.
func endedBy(gap int) func(before, x api.DutyRecord) bool {
	return func(before, x api.DutyRecord) bool { return x.From-before.To >= gap }
}

// WorkIn returns the work in a span of time.
func WorkIn(l []api.DutyRecord, from, to int) (int, api.Errno) {
	if e := check.First(errorOfRecords(l), errorOfTime(from), errorOfTime(to)); e != api.OK {
		return 0, e
	}
	if to < from {
		return 0, api.ErrOrder
	}
	return workIn(l, from, to), api.OK
}

func workIn(l []api.DutyRecord, from, to int) int {
	work := 0
	for _, x := range l {
		work += max(0, min(x.To, to)-max(x.From, from))
	}
	return work
}

// FirstBroken returns the first rule that is broken, and its record.
func FirstBroken(r api.DutyRules, l []api.DutyRecord) (api.DutyBroken, api.Errno) {
	b, e := bookOf(r, l)
	if e != api.OK {
		return api.DutyBroken{}, e
	}
	return b.firstBroken()
}

func (b book) firstBroken() (api.DutyBroken, api.Errno) {
	for i := range b.records {
		if rule := b.upTo(i).brokenLast(); rule != api.DutyNone {
			return api.DutyBroken{Rule: rule, Record: i}, api.OK
		}
	}
	return api.DutyBroken{}, api.ErrNone
}

// upTo returns the book of all records up to one of them.
func (b book) upTo(record int) book {
	b.records = b.records[:record+1]
	return b
}

// with returns the book with a record more, in memory of its own.
func (b book) with(x api.DutyRecord) book {
	b.records = append(slices.Clone(b.records), x)
	return b
}

// brokenLast returns the first rule that is broken at the last record, or DutyNone.
func (b book) brokenLast() int {
	stint, shift := b.lastGroup(b.Break), b.lastGroup(b.Rest)
	switch {
	case workIn(stint, stint[0].From, b.end()) > b.Stint:
		return api.DutyStint
	case b.end()-shift[0].From > b.Shift:
		return api.DutyShift
	case b.weekBrokenLast():
		return api.DutyWeek
	}
	return api.DutyNone
}

// weekBrokenLast tells whether the rule DutyWeek is broken at the last record.
func (b book) weekBrokenLast() bool { return workIn(b.records, b.end()-week, b.end()) > b.Week }

// end returns the time at which the last record ends.
func (b book) end() int { return b.records[len(b.records)-1].To }

// lastGroup returns the last records with lesser gaps than this one between them.
func (b book) lastGroup(gap int) []api.DutyRecord {
	all := groups(b.records, endedBy(gap))
	return b.records[all[len(all)-1][0]:]
}
