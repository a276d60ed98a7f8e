package control

import (
	"slices"

	"fiacre/api"
)

// StateOf returns the state that follows from a journal.
func StateOf(s api.ControlSetup, l []api.ControlEntry) (api.ControlState, api.Errno) {
	return ofState(s, l, func(x api.ControlState) (api.ControlState, api.Errno) { return x, api.OK })
}

// TripOf returns the trip with a key.
func TripOf(s api.ControlSetup, l []api.ControlEntry, key api.ControlKey) (api.ControlTrip, api.Errno) {
	return ofState(s, l, func(x api.ControlState) (api.ControlTrip, api.Errno) { return tripIn(x, key) })
}

// OpenTrips returns the keys of all trips that are neither billed nor cancelled.
func OpenTrips(s api.ControlSetup, l []api.ControlEntry) ([]api.ControlKey, api.Errno) {
	return ofState(s, l, openTrips)
}

// Takings returns the sum of the fares of all billed trips.
func Takings(s api.ControlSetup, l []api.ControlEntry) (int, api.Errno) {
	return ofState(s, l, takings)
}

// ofState hands the state that follows from a journal on to what is asked of it.
func ofState[T any](s api.ControlSetup, l []api.ControlEntry, tell func(x api.ControlState) (T, api.Errno)) (T, api.Errno) {
	if _, e := CheckJournal(s, l); e != api.OK {
		var zero T
		return zero, e
	}
	return tell(stateOf(s.Tariff, l))
}

func tripIn(x api.ControlState, key api.ControlKey) (api.ControlTrip, api.Errno) {
	i := slices.IndexFunc(x.Trips, func(trip api.ControlTrip) bool { return trip.Key == key })
	if i < 0 {
		return api.ControlTrip{}, api.ErrMissing
	}
	return x.Trips[i], api.OK
}

func openTrips(x api.ControlState) ([]api.ControlKey, api.Errno) {
	var keys []api.ControlKey
	for _, trip := range x.Trips {
		if trip.Status != api.ControlBilled && trip.Status != api.ControlCancelled {
			keys = append(keys, trip.Key)
		}
	}
	return keys, api.OK
}

func takings(x api.ControlState) (int, api.Errno) {
	cents := 0
	for _, trip := range x.Trips {
		if trip.Status == api.ControlBilled {
			cents += trip.Fare
		}
	}
	if cents > api.MaxMoney {
		return 0, api.ErrLarge
	}
	return cents, api.OK
}
