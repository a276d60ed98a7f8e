// Package tariff is chapter 1: rules and the law's fare. See shared/doc/01-tariff.md.
package tariff

import (
	"slices"

	"fiacre/api"
	"fiacre/check"
	"fiacre/words"
)

// CheckTariff returns the first error of a tariff, and the part that has it.
func CheckTariff(t api.Tariff) (api.TariffMark, api.Errno) {
	if e := errorOfHead(t); e != api.OK {
		return api.TariffMark{}, e
	}
	lists := []struct {
		list, count, most int
		errorOf           func(t api.Tariff, i int) api.Errno
	}{
		{api.TariffZones, len(t.Zones), api.MaxTariffZones, errorOfZoneName},
		{api.TariffHolidays, len(t.Holidays), api.MaxTariffHolidays, errorOfHoliday},
		{api.TariffRules, len(t.Rules), api.MaxTariffRules, errorOfRule},
		{api.TariffExtras, len(t.Extras), api.MaxTariffExtras, errorOfExtra},
		{api.TariffFixeds, len(t.Fixed), api.MaxTariffFixed, errorOfFixed},
	}
	for _, l := range lists {
		if l.count > l.most {
			return api.TariffMark{}, api.ErrLarge
		}
		for i := range l.count {
			if e := l.errorOf(t, i); e != api.OK {
				return api.TariffMark{List: l.list, Number: i}, e
			}
		}
	}
	return api.TariffMark{}, api.OK
}

func errorOfTariff(t api.Tariff) api.Errno {
	_, e := CheckTariff(t)
	return e
}

func errorOfHead(t api.Tariff) api.Errno {
	switch {
	case !words.IsName(t.Name):
		return api.ErrName
	case !check.Within(t.Unit, 1, api.MaxTariffUnit) || !check.Within(t.Step, 0, api.MaxTariffAmount):
		return api.ErrRange
	case len(t.Zones) == 0:
		return api.ErrShape
	}
	return api.OK
}

func errorOfZoneName(t api.Tariff, i int) api.Errno {
	return words.ErrorOfName(i, func(j int) string { return t.Zones[j] })
}

func errorOfHoliday(t api.Tariff, i int) api.Errno {
	return errorInSet(t.Holidays, i, api.MaxDate, api.ErrRange)
}

func errorOfRule(t api.Tariff, i int) api.Errno {
	if e := words.ErrorOfName(i, func(j int) string { return t.Rules[j].Name }); e != api.OK {
		return e
	}
	r := t.Rules[i]
	switch {
	case !isDate(r.From) || !isDate(r.To):
		return api.ErrRange
	case r.From > r.To:
		return api.ErrOrder
	case len(r.Zones) == 0 || len(r.Days) == 0:
		return api.ErrShape
	}
	if e := errorOfSet(r.Zones, len(t.Zones)-1, api.ErrMissing); e != api.OK {
		return e
	}
	if e := errorOfSet(r.Days, api.TariffHoliday, api.ErrRange); e != api.OK {
		return e
	}
	return errorOfTerms(r)
}

// errorOfTerms returns the error of the hours and the prices of a rule.
func errorOfTerms(r api.TariffRule) api.Errno {
	if check.Within(r.Begin, 0, api.Day-1) && check.Within(r.End, 0, api.Day) && check.Within(r.Start, 0, api.MaxTariffAmount) &&
		check.Within(r.Metre, 0, api.MaxTariffRate) && check.Within(r.Second, 0, api.MaxTariffRate) {
		return api.OK
	}
	return api.ErrRange
}

func errorOfExtra(t api.Tariff, i int) api.Errno {
	if e := words.ErrorOfName(i, func(j int) string { return t.Extras[j].Name }); e != api.OK {
		return e
	}
	if !check.Within(t.Extras[i].Amount, 0, api.MaxTariffAmount) {
		return api.ErrRange
	}
	return api.OK
}

func errorOfFixed(t api.Tariff, i int) api.Errno {
	f := t.Fixed[i]
	switch {
	case !isZone(t, f.From) || !isZone(t, f.To):
		return api.ErrMissing
	case !check.Within(f.Amount, 0, api.MaxTariffAmount):
		return api.ErrRange
	}
	// The earlier ones alone are looked through, so that f is not found itself.
	t.Fixed = t.Fixed[:i]
	if _, found := fixedFare(t, f.From, f.To); found {
		return api.ErrExists
	}
	return api.OK
}

// errorOfSet returns the error of a list of numbers from 0 to most that ascend; outside is that of a number beyond these.
func errorOfSet(list []int, most int, outside api.Errno) api.Errno {
	for i := range list {
		if e := errorInSet(list, i, most, outside); e != api.OK {
			return e
		}
	}
	return api.OK
}

func errorInSet(list []int, i, most int, outside api.Errno) api.Errno {
	switch {
	case !check.Within(list[i], 0, most):
		return outside
	case i > 0 && list[i] <= list[i-1]:
		return api.ErrOrder
	}
	return api.OK
}

func isZone(t api.Tariff, zone int) bool { return check.Within(zone, 0, len(t.Zones)-1) }

func isDate(date int) bool { return check.Within(date, 0, api.MaxDate) }

func endsWithin(r api.Range, least, most int) bool {
	return check.Within(r.Lo, least, most) && check.Within(r.Hi, least, most)
}

// fixedFare returns the fixed fare from a zone to another one, if there is one.
func fixedFare(t api.Tariff, from, to int) (int, bool) {
	i := slices.IndexFunc(t.Fixed, func(f api.TariffFixed) bool { return f.From == from && f.To == to })
	if i < 0 {
		return 0, false
	}
	return t.Fixed[i].Amount, true
}
