package tariff

import (
	"iter"
	"slices"

	"fiacre/api"
	"fiacre/check"
)

// KindOf returns the kind of a date: its day of the week, or TariffHoliday.
func KindOf(t api.Tariff, date int) (int, api.Errno) {
	if e := errorOfTariff(t); e != api.OK {
		return 0, e
	}
	if !isDate(date) {
		return 0, api.ErrRange
	}
	return kindOf(t, date), api.OK
}

func kindOf(t api.Tariff, date int) int {
	if slices.Contains(t.Holidays, date) {
		return api.TariffHoliday
	}
	return date % api.Week
}

// Later returns the moment so many seconds later.
func Later(m api.Moment, seconds int) (api.Moment, api.Errno) {
	if e := errorOfMoment(m); e != api.OK {
		return api.Moment{}, e
	}
	if !check.Within(seconds, 0, api.MaxTariffSeconds) {
		return api.Moment{}, api.ErrRange
	}
	n := later(m, seconds)
	if e := errorOfMoment(n); e != api.OK {
		return api.Moment{}, e
	}
	return n, api.OK
}

func later(m api.Moment, seconds int) api.Moment {
	all := m.Time + seconds
	return api.Moment{Date: m.Date + all/api.Day, Time: all % api.Day}
}

func errorOfMoment(m api.Moment) api.Errno {
	if !isDate(m.Date) || !check.Within(m.Time, 0, api.Day-1) {
		return api.ErrRange
	}
	return api.OK
}

// errorOfPlace returns the error of a tariff, or of a place of it.
func errorOfPlace(t api.Tariff, at api.TariffPlace) api.Errno {
	if e := errorOfTariff(t); e != api.OK {
		return e
	}
	if !isZone(t, at.Zone) {
		return api.ErrMissing
	}
	return errorOfMoment(at.At)
}

// RuleAt returns the number of the only rule that holds in a place.
func RuleAt(t api.Tariff, at api.TariffPlace) (int, api.Errno) {
	if e := errorOfPlace(t, at); e != api.OK {
		return 0, e
	}
	return ruleAt(t, at)
}

func ruleAt(t api.Tariff, at api.TariffPlace) (int, api.Errno) {
	return onlyRule(rulesThere(t, rulesOn(t, at.At.Date), at))
}

func onlyRule(rules []int) (int, api.Errno) {
	switch len(rules) {
	case 0:
		return 0, api.ErrNone
	case 1:
		return rules[0], api.OK
	}
	return 0, api.ErrClash
}

// rulesOn returns the numbers of the rules that hold on a date, somewhere and at some time.
func rulesOn(t api.Tariff, date int) []int {
	kind := kindOf(t, date)
	var rules []int
	for i, r := range t.Rules {
		if check.Within(date, r.From, r.To) && slices.Contains(r.Days, kind) {
			rules = append(rules, i)
		}
	}
	return rules
}

// rulesThere returns those of the rules on its date that hold in a place.
func rulesThere(t api.Tariff, today []int, at api.TariffPlace) []int {
	var rules []int
	for _, i := range today {
		if inHours(t.Rules[i], at.At.Time) && slices.Contains(t.Rules[i].Zones, at.Zone) {
			rules = append(rules, i)
		}
	}
	return rules
}

func inHours(r api.TariffRule, time int) bool {
	if r.Begin < r.End {
		return r.Begin <= time && time < r.End
	}
	return r.Begin <= time || time < r.End
}

// turns yields, in their order, the moments of these dates at which what holds may change, each with the rules on its date.
func turns(t api.Tariff, dates api.Range) iter.Seq2[api.Moment, []int] {
	times := turnTimes(t)
	return func(yield func(api.Moment, []int) bool) {
		for date := dates.Lo; date <= dates.Hi; date++ {
			today := rulesOn(t, date)
			for _, time := range times {
				if !yield(api.Moment{Date: date, Time: time}, today) {
					return
				}
			}
		}
	}
}

// turnTimes returns the times of a day at which rules begin or end to hold, and the day itself.
func turnTimes(t api.Tariff) []int {
	times := []int{0}
	for _, r := range t.Rules {
		times = append(times, r.Begin, r.End%api.Day)
	}
	slices.Sort(times)
	return slices.Compact(times)
}

// FirstGap returns the first place of these dates in which no rule holds.
func FirstGap(t api.Tariff, dates api.Range) (api.TariffPlace, api.Errno) {
	place, _, e := firstWhere(t, dates, func(rules []int) bool { return len(rules) == 0 })
	return place, e
}

// FirstOverlap returns the first place of these dates in which several rules hold, and the first two of them.
func FirstOverlap(t api.Tariff, dates api.Range) (api.TariffPlace, [2]int, api.Errno) {
	place, rules, e := firstWhere(t, dates, func(rules []int) bool { return len(rules) > 1 })
	if e != api.OK {
		return api.TariffPlace{}, [2]int{}, e
	}
	return place, [2]int{rules[0], rules[1]}, api.OK
}

// firstWhere returns the first place of these dates whose rules are such as is asked for, and these rules.
func firstWhere(t api.Tariff, dates api.Range, is func(rules []int) bool) (api.TariffPlace, []int, api.Errno) {
	if e := errorOfTariff(t); e != api.OK {
		return api.TariffPlace{}, nil, e
	}
	if e := errorOfDates(dates); e != api.OK {
		return api.TariffPlace{}, nil, e
	}
	for at, today := range turns(t, dates) {
		for zone := range len(t.Zones) {
			place := api.TariffPlace{Zone: zone, At: at}
			if rules := rulesThere(t, today, place); is(rules) {
				return place, rules, api.OK
			}
		}
	}
	return api.TariffPlace{}, nil, api.ErrNone
}

func errorOfDates(dates api.Range) api.Errno {
	switch {
	case !endsWithin(dates, 0, api.MaxDate):
		return api.ErrRange
	case dates.Lo > dates.Hi:
		return api.ErrOrder
	case dates.Hi-dates.Lo+1 > api.MaxTariffDates:
		return api.ErrLarge
	}
	return api.OK
}

// NextChange returns the first later moment at which RuleAt returns something else in the zone.
func NextChange(t api.Tariff, at api.TariffPlace) (api.Moment, api.Errno) {
	if e := errorOfPlace(t, at); e != api.OK {
		return api.Moment{}, e
	}
	rule, now := ruleAt(t, at)
	dates := api.Range{Lo: at.At.Date, Hi: min(at.At.Date+api.MaxTariffDates, api.MaxDate)}
	for m, today := range turns(t, dates) {
		if m.Date == at.At.Date && m.Time <= at.At.Time {
			continue
		}
		next, then := onlyRule(rulesThere(t, today, api.TariffPlace{Zone: at.Zone, At: m}))
		if next != rule || then != now {
			return m, api.OK
		}
	}
	return api.Moment{}, api.ErrNone
}
