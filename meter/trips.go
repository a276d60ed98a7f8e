package meter

import (
	"fiacre/api"
	"fiacre/check"
	"fiacre/tariff"
)

// StateOf returns the state of the meter behind so many events.
func StateOf(t api.Tariff, l api.MeterLog, events int) (api.MeterState, api.Errno) {
	r, _, e := recordOf(t, l)
	if e != api.OK {
		return api.MeterState{}, e
	}
	if !check.Within(events, 0, len(l.Events)) {
		return api.MeterState{}, api.ErrRange
	}
	return r.states[events], api.OK
}

// TripsOf returns all finished trips.
func TripsOf(t api.Tariff, l api.MeterLog) ([]api.MeterTrip, api.Errno) {
	r, _, e := recordOf(t, l)
	if e != api.OK {
		return nil, e
	}
	trips := make([]api.MeterTrip, len(r.done))
	for i := range r.done {
		trips[i] = r.done[i].trip
	}
	return trips, api.OK
}

// Takings returns the sum of the fares of all finished trips.
func Takings(t api.Tariff, l api.MeterLog) (int, api.Errno) {
	trips, e := TripsOf(t, l)
	if e != api.OK {
		return 0, e
	}
	cents := 0
	for _, trip := range trips {
		cents += trip.Fare
	}
	if cents > api.MaxMoney {
		return 0, api.ErrLarge
	}
	return cents, api.OK
}

// CountsOf returns what was counted in a finished trip, rule by rule.
func CountsOf(t api.Tariff, l api.MeterLog, trip int) ([]api.MeterCount, api.Errno) {
	r, _, e := recordOf(t, l)
	if e != api.OK {
		return nil, e
	}
	if !check.Within(trip, 0, len(r.done)-1) {
		return nil, api.ErrMissing
	}
	var list []api.MeterCount
	for rule, c := range r.done[trip].counts {
		if c.Pulses > 0 || c.Seconds > 0 {
			list = append(list, api.MeterCount{Rule: rule, Pulses: c.Pulses, Seconds: c.Seconds})
		}
	}
	return list, api.OK
}

// StepsOfCounts returns the steps that counts come to.
func StepsOfCounts(t api.Tariff, constant int, l []api.MeterCount) (int, api.Errno) {
	if _, e := tariff.CheckTariff(t); e != api.OK {
		return 0, e
	}
	if e := errorOfConstant(constant); e != api.OK {
		return 0, e
	}
	if e := errorOfCounts(t, l); e != api.OK {
		return 0, e
	}
	parts := 0
	for _, c := range l {
		rule := t.Rules[c.Rule]
		parts += metresOfKilometre*rule.Metre*c.Pulses + constant*rule.Second*c.Seconds
	}
	return parts / (t.Unit * constant), api.OK
}

func errorOfCounts(t api.Tariff, l []api.MeterCount) api.Errno {
	if len(l) > api.MaxTariffRules {
		return api.ErrLarge
	}
	for i, c := range l {
		switch {
		case !check.Within(c.Rule, 0, len(t.Rules)-1):
			return api.ErrMissing
		case i > 0 && c.Rule <= l[i-1].Rule:
			return api.ErrOrder
		case !check.Within(c.Pulses, 0, api.MaxMeterCount) || !check.Within(c.Seconds, 0, api.MaxMeterSeconds):
			return api.ErrRange
		}
	}
	return api.OK
}
