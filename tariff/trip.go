package tariff

import (
	"slices"

	"fiacre/api"
	"fiacre/check"
)

// CheckTrip returns the first error of a trip, and the number of the supplement or the segment that has it.
func CheckTrip(t api.Tariff, x api.TariffTrip) (int, api.Errno) {
	if e := errorOfTariff(t); e != api.OK {
		return 0, e
	}
	if e := errorOfMoment(x.At); e != api.OK {
		return 0, e
	}
	if i, e := checkExtras(t, x.Extras); e != api.OK {
		return i, e
	}
	return checkSegments(t, x.Segments)
}

func checkExtras(t api.Tariff, extras []int) (int, api.Errno) {
	if len(extras) != len(t.Extras) {
		return 0, api.ErrShape
	}
	for i, n := range extras {
		if !check.Within(n, 0, api.MaxTariffExtra) {
			return i, api.ErrRange
		}
	}
	return 0, api.OK
}

func checkSegments(t api.Tariff, segments []api.TariffSegment) (int, api.Errno) {
	switch {
	case len(segments) == 0:
		return 0, api.ErrShape
	case len(segments) > api.MaxTariffSegments:
		return 0, api.ErrLarge
	}
	for i, s := range segments {
		switch {
		case !isZone(t, s.Zone):
			return i, api.ErrMissing
		case !check.Within(s.Metres, 0, api.MaxTariffMetres) || !check.Within(s.Seconds, 1, api.MaxTariffHours):
			return i, api.ErrRange
		}
	}
	return 0, api.OK
}

// RulesOf returns the numbers of the rules of all segments.
func RulesOf(t api.Tariff, x api.TariffTrip) ([]int, api.Errno) {
	if _, e := CheckTrip(t, x); e != api.OK {
		return nil, e
	}
	rules := make([]int, len(x.Segments))
	begins := x.At
	for i, s := range x.Segments {
		if e := errorOfMoment(begins); e != api.OK {
			return nil, e
		}
		rule, e := ruleAt(t, api.TariffPlace{Zone: s.Zone, At: begins})
		if e != api.OK {
			return nil, e
		}
		rules[i] = rule
		begins = later(begins, s.Seconds)
	}
	return rules, api.OK
}

// A reckoning is what the points by distance and those by time come to together.
type reckoning func(byMetres, bySeconds int) int

// The law's points are the greater ones; more than both together no segment can have, however it was driven.
func lawful(byMetres, bySeconds int) int { return max(byMetres, bySeconds) }

func utmost(byMetres, bySeconds int) int { return byMetres + bySeconds }

func pointsOf(t api.Tariff, rules []int, segments []api.TariffSegment, reckon reckoning) []int {
	points := make([]int, len(segments))
	for i, s := range segments {
		rule := t.Rules[rules[i]]
		points[i] = reckon(rule.Metre*s.Metres, rule.Second*s.Seconds)
	}
	return points
}

// PointsOf returns the points of all segments.
func PointsOf(t api.Tariff, x api.TariffTrip) ([]int, api.Errno) {
	rules, e := RulesOf(t, x)
	if e != api.OK {
		return nil, e
	}
	return pointsOf(t, rules, x.Segments, lawful), api.OK
}

// StepsOf returns the steps behind each segment.
func StepsOf(t api.Tariff, x api.TariffTrip) ([]int, api.Errno) {
	points, e := PointsOf(t, x)
	if e != api.OK {
		return nil, e
	}
	behind := 0
	steps := make([]int, len(points))
	for i, n := range points {
		behind += n
		steps[i] = behind / t.Unit
	}
	return steps, api.OK
}

// Cut returns the trip in which a segment is cut into a first part and the rest.
func Cut(x api.TariffTrip, segment int, first api.TariffSegment) (api.TariffTrip, api.Errno) {
	if !check.Within(segment, 0, len(x.Segments)-1) {
		return api.TariffTrip{}, api.ErrMissing
	}
	whole := x.Segments[segment]
	switch {
	case first.Zone != whole.Zone:
		return api.TariffTrip{}, api.ErrClash
	// Nothing is taken from Seconds here: it may be the least int there is.
	case !check.Within(first.Metres, 0, whole.Metres) || first.Seconds < 1 || first.Seconds >= whole.Seconds:
		return api.TariffTrip{}, api.ErrRange
	case len(x.Segments) >= api.MaxTariffSegments:
		return api.TariffTrip{}, api.ErrFull
	}
	rest := api.TariffSegment{Zone: whole.Zone, Metres: whole.Metres - first.Metres, Seconds: whole.Seconds - first.Seconds}
	x.Extras = slices.Clone(x.Extras)
	x.Segments = slices.Concat(x.Segments[:segment], []api.TariffSegment{first, rest}, x.Segments[segment+1:])
	return x, api.OK
}
