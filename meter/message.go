package meter

import (
	"slices"

	"fiacre/api"
	"fiacre/check"
)

// Split returns the log in which an event of pulses, or ticks, is told as two.
func Split(l api.MeterLog, event, first int) (api.MeterLog, api.Errno) {
	if e := errorAlone(l); e != api.OK {
		return api.MeterLog{}, e
	}
	if !check.Within(event, 0, len(l.Events)-1) {
		return api.MeterLog{}, api.ErrMissing
	}
	whole := l.Events[event]
	switch {
	case !isMessage(whole):
		return api.MeterLog{}, api.ErrKind
	case !check.Within(first, 1, whole.N-1):
		return api.MeterLog{}, api.ErrRange
	case len(l.Events) >= api.MaxMeterEvents:
		return api.MeterLog{}, api.ErrFull
	}
	parts := []api.MeterEvent{{Kind: whole.Kind, N: first}, {Kind: whole.Kind, N: whole.N - first}}
	l.Events = slices.Concat(l.Events[:event], parts, l.Events[event+1:])
	return l, api.OK
}

// Merged returns the log in which neighbouring events of pulses, and of ticks, are told as one.
func Merged(l api.MeterLog) (api.MeterLog, api.Errno) {
	if e := errorAlone(l); e != api.OK {
		return api.MeterLog{}, e
	}
	var events []api.MeterEvent
	for _, event := range l.Events {
		last := len(events) - 1
		if last >= 0 && mayMerge(events[last], event) {
			events[last].N += event.N
			continue
		}
		events = append(events, event)
	}
	l.Events = events
	return l, api.OK
}

func mayMerge(a, b api.MeterEvent) bool {
	return isMessage(a) && a.Kind == b.Kind && a.N+b.N <= limits[a.Kind].Hi
}

// isMessage tells whether an event is of a kind whose N is a count that may be told in parts.
func isMessage(event api.MeterEvent) bool {
	return event.Kind == api.MeterPulses || event.Kind == api.MeterTicks
}
