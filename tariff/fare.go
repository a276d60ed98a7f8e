package tariff

import "fiacre/api"

// FareOf returns the fare that the law asks for a trip.
func FareOf(t api.Tariff, x api.TariffTrip) (api.TariffFare, api.Errno) {
	rules, e := RulesOf(t, x)
	if e != api.OK {
		return api.TariffFare{}, e
	}
	fare, e := fareBy(t, x, rules, lawful)
	if e != api.OK {
		return api.TariffFare{}, e
	}
	if fare.Total > api.MaxMoney {
		return api.TariffFare{}, api.ErrLarge
	}
	return fare, api.OK
}

// FareRange returns from where to where the fare of a trip goes, however its segments were driven.
func FareRange(t api.Tariff, x api.TariffTrip) (api.Range, api.Errno) {
	rules, e := RulesOf(t, x)
	if e != api.OK {
		return api.Range{}, e
	}
	return rangeFrom(t, x, x, rules)
}

// Estimate returns from where to where the fare of a trip goes of which only the ends of its metres and seconds are known.
func Estimate(t api.Tariff, x api.TariffQuestion) (api.Range, api.Errno) {
	if e := errorOfPlace(t, x.At); e != api.OK {
		return api.Range{}, e
	}
	if e := errorOfEnds(x.Metres, x.Seconds); e != api.OK {
		return api.Range{}, e
	}
	rule, e := ruleAt(t, x.At)
	if e != api.OK {
		return api.Range{}, e
	}
	least := tripOfOne(x.At, x.Metres.Lo, x.Seconds.Lo)
	most := tripOfOne(x.At, x.Metres.Hi, x.Seconds.Hi)
	return rangeFrom(t, least, most, []int{rule})
}

func errorOfEnds(metres, seconds api.Range) api.Errno {
	switch {
	case !endsWithin(metres, 0, api.MaxTariffMetres) || !endsWithin(seconds, 1, api.MaxTariffHours):
		return api.ErrRange
	case metres.Lo > metres.Hi || seconds.Lo > seconds.Hi:
		return api.ErrOrder
	}
	return api.OK
}

func tripOfOne(at api.TariffPlace, metres, seconds int) api.TariffTrip {
	return api.TariffTrip{At: at.At, Segments: []api.TariffSegment{{Zone: at.Zone, Metres: metres, Seconds: seconds}}}
}

// rangeFrom returns the range from the lawful fare of one trip to the utmost one of another trip with the same rules.
func rangeFrom(t api.Tariff, least, most api.TariffTrip, rules []int) (api.Range, api.Errno) {
	lo, e := fareBy(t, least, rules, lawful)
	if e != api.OK {
		return api.Range{}, e
	}
	hi, e := fareBy(t, most, rules, utmost)
	if e != api.OK {
		return api.Range{}, e
	}
	if hi.Total > api.MaxMoney {
		return api.Range{}, api.ErrLarge
	}
	return api.Range{Lo: lo.Total, Hi: hi.Total}, api.OK
}

// fareBy returns the fare of a trip, however great, from the rules of its segments.
func fareBy(t api.Tariff, x api.TariffTrip, rules []int, reckon reckoning) (api.TariffFare, api.Errno) {
	fare := api.TariffFare{Start: t.Rules[rules[0]].Start, Extras: extrasOf(t, x)}
	if x.Fixed {
		amount, found := fixedFare(t, x.Segments[0].Zone, x.Segments[len(x.Segments)-1].Zone)
		if !found {
			return api.TariffFare{}, api.ErrNone
		}
		fare.Start, fare.Driven = 0, amount
	} else {
		fare.Driven = sum(pointsOf(t, rules, x.Segments, reckon)...) / t.Unit * t.Step
	}
	fare.Total = sum(fare.Start, fare.Driven, fare.Extras)
	return fare, api.OK
}

func extrasOf(t api.Tariff, x api.TariffTrip) int {
	cents := 0
	for i, n := range x.Extras {
		cents += t.Extras[i].Amount * n
	}
	return cents
}

func sum(numbers ...int) int {
	all := 0
	for _, n := range numbers {
		all += n
	}
	return all
}
