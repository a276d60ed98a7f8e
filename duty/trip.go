package duty

import (
	"slices"
	"sort"

	"fiacre/api"
	"fiacre/check"
)

const (
	// noNext is the Next of a trip behind which no shift is planned.
	noNext = -1
	// maxWait is by how much a trip begins later at most.
	maxWait = 10000000
)

// Allowed returns whether a trip is allowed, and the first rule that it breaks with its greatest length.
func Allowed(r api.DutyRules, l []api.DutyRecord, t api.DutyTrip) (int, int, api.Errno) {
	b, e := bookFor(r, l, t)
	if e != api.OK {
		return 0, api.DutyNone, e
	}
	rule := b.brokenBy(t, t.Takes.Hi)
	switch {
	case rule == api.DutyNone:
		return api.AnswerYes, rule, api.OK
	case b.brokenBy(t, t.Takes.Lo) == api.DutyNone:
		return api.AnswerMaybe, rule, api.OK
	}
	return api.AnswerNo, rule, api.OK
}

// bookFor returns the book of rules and records behind which there is room for a trip, or the first error of all.
func bookFor(r api.DutyRules, l []api.DutyRecord, t api.DutyTrip) (book, api.Errno) {
	b, e := bookOf(r, l)
	if e != api.OK {
		return book{}, e
	}
	if len(l) == api.MaxDutyRecords {
		return book{}, api.ErrFull
	}
	if e := errorOfTrip(t); e != api.OK {
		return book{}, e
	}
	if len(l) > 0 && t.Start < b.end() {
		return book{}, api.ErrDouble
	}
	if _, e := b.firstBroken(); e != api.ErrNone {
		return book{}, api.ErrState
	}
	return b, api.OK
}

func errorOfTrip(t api.DutyTrip) api.Errno {
	switch {
	case !isTime(t.Start) || !isTakes(t.Takes.Lo) || !isTakes(t.Takes.Hi):
		return api.ErrRange
	case t.Takes.Lo > t.Takes.Hi:
		return api.ErrOrder
	case t.Next != noNext && !isTime(t.Next):
		return api.ErrRange
	}
	return api.OK
}

// brokenBy returns the first rule that a trip of this length breaks, or DutyNone.
func (b book) brokenBy(t api.DutyTrip, length int) int {
	end := t.Start + length
	if length > 0 {
		if rule := b.with(api.DutyRecord{From: t.Start, To: end}).brokenLast(); rule != api.DutyNone {
			return rule
		}
	}
	if t.Next != noNext && t.Next-end < b.Rest {
		return api.DutyNext
	}
	return api.DutyNone
}

// LongestFrom returns the greatest length with which a trip breaks no rule.
func LongestFrom(r api.DutyRules, l []api.DutyRecord, start int) (int, api.Errno) {
	t := api.DutyTrip{Start: start, Next: noNext}
	b, e := bookFor(r, l, t)
	if e != api.OK {
		return 0, e
	}
	// A longer trip breaks whatever a shorter one breaks; so the search may halve.
	return sort.Search(api.MaxDutyTakes, func(length int) bool {
		return b.brokenBy(t, length+1) != api.DutyNone
	}), api.OK
}

// EarliestStart returns the least time from which a trip is surely allowed.
func EarliestStart(r api.DutyRules, l []api.DutyRecord, t api.DutyTrip) (int, api.Errno) {
	b, e := bookFor(r, l, t)
	if e != api.OK {
		return 0, e
	}
	latest := min(t.Start+maxWait, api.MaxDutyTime)
	for _, start := range b.startsFor(t, latest) {
		if !check.Within(start, t.Start, latest) {
			continue
		}
		later := t
		later.Start = start
		if b.brokenBy(later, t.Takes.Hi) == api.DutyNone {
			return start, api.OK
		}
	}
	return 0, api.ErrNone
}

// startsFor returns, ascending, the times of which one is the least from which a trip is surely allowed, if one is at most the latest.
// From one of them to the next one a later start mends nothing: the stint and the shift stay the same ones, the shift gets longer, Next comes nearer, and the week is kept from one of them on.
func (b book) startsFor(t api.DutyTrip, latest int) []int {
	starts := []int{t.Start, b.weekKeptFrom(t, latest)}
	if len(b.records) > 0 {
		starts = append(starts, b.end()+b.Break, b.end()+b.Rest)
	}
	slices.Sort(starts)
	return starts
}

// weekKeptFrom returns the least start of a trip at which it keeps the rule DutyWeek with its greatest length, or the latest one if it keeps it at none ahead of that.
func (b book) weekKeptFrom(t api.DutyTrip, latest int) int {
	// A later start leaves less of the records within the week; so the search may halve.
	return t.Start + sort.Search(latest-t.Start, func(wait int) bool {
		start := t.Start + wait
		return !b.with(api.DutyRecord{From: start, To: start + t.Takes.Hi}).weekBrokenLast()
	})
}

func isTakes(n int) bool { return check.Within(n, 0, api.MaxDutyTakes) }
