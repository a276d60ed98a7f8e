package meter

import (
	"slices"

	"fiacre/api"
	"fiacre/check"
)

// noSeal is the number of a seal that is not there.
const noSeal = -1

// SumOf returns the check sum of the first so many events.
func SumOf(l api.MeterLog, events int) (int, api.Errno) {
	if e := errorAlone(l); e != api.OK {
		return 0, e
	}
	if !check.Within(events, 0, len(l.Events)) {
		return 0, api.ErrRange
	}
	return sumOf(l.Events[:events]), api.OK
}

// sumOfNone is the check sum of no events.
const sumOfNone = 1

func sumOf(events []api.MeterEvent) int {
	sum := sumOfNone
	for _, event := range events {
		sum = sumWith(sum, event)
	}
	return sum
}

// sumWith returns the check sum of the events with this sum and one more.
func sumWith(sum int, event api.MeterEvent) int {
	for _, n := range [...]int{event.Kind, event.N} {
		sum = (257*sum + n + 1) % api.MeterPrime
	}
	return sum
}

// Sealed returns the log with a right seal behind all events.
func Sealed(l api.MeterLog) (api.MeterLog, api.Errno) {
	if e := errorAlone(l); e != api.OK {
		return api.MeterLog{}, e
	}
	if len(l.Events) >= api.MaxMeterEvents {
		return api.MeterLog{}, api.ErrFull
	}
	seal := api.MeterEvent{Kind: api.MeterSeal, N: sumOf(l.Events)}
	l.Events = slices.Concat(l.Events, []api.MeterEvent{seal})
	return l, api.OK
}

// FirstFalse returns the first show, or seal, that is not right, with the seals around it.
func FirstFalse(t api.Tariff, l api.MeterLog) (api.MeterFalse, api.Errno) {
	r, _, e := recordOf(t, l)
	if e != api.OK {
		return api.MeterFalse{}, e
	}
	sum, before := sumOfNone, noSeal
	for i, event := range l.Events {
		falseShow := event.Kind == api.MeterShow && event.N != r.states[i].Fare
		falseSeal := event.Kind == api.MeterSeal && event.N != sum
		if falseShow || falseSeal {
			return api.MeterFalse{Event: i, Before: before, Behind: nextSeal(l.Events, i)}, api.OK
		}
		if event.Kind == api.MeterSeal {
			before = i
		}
		sum = sumWith(sum, event)
	}
	return api.MeterFalse{}, api.ErrNone
}

// nextSeal returns the number of the first seal behind an event.
func nextSeal(events []api.MeterEvent, event int) int {
	for i := event + 1; i < len(events); i++ {
		if events[i].Kind == api.MeterSeal {
			return i
		}
	}
	return noSeal
}
