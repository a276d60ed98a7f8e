package control

import (
	"slices"

	"fiacre/api"
	"fiacre/words"
)

// A ledger is the state of a room while entries are carried out, with the place of each trip in it.
type ledger struct {
	tariff api.Tariff
	state  api.ControlState
	places map[api.ControlKey]int
}

// stateOf returns the state that follows from a right journal.
func stateOf(t api.Tariff, journal []api.ControlEntry) api.ControlState {
	l := ledger{tariff: t, places: map[api.ControlKey]int{}}
	for i, x := range journal {
		l.take(i, x)
	}
	return l.state
}

// take carries the entry of this number out, or refuses it.
func (l *ledger) take(number int, x api.ControlEntry) {
	if e := l.errorOf(x); e != api.OK {
		l.state.Refused = append(l.state.Refused, api.ControlRefused{Entry: number, Error: e})
		return
	}
	l.state.Counts[x.Draft.Kind]++
}

// errorOf carries an entry out, or returns the error for which nothing is changed.
func (l *ledger) errorOf(x api.ControlEntry) api.Errno {
	if _, ordered := l.places[x.Draft.Key]; isAboutTrip(x.Draft.Kind) && !ordered {
		return api.ErrMissing
	}
	return kindOf(x.Draft.Kind).carryOut(l, x)
}

// trip returns the trip that an entry is about.
func (l *ledger) trip(x api.ControlEntry) *api.ControlTrip {
	return &l.state.Trips[l.places[x.Draft.Key]]
}

func (l *ledger) order(x api.ControlEntry) api.Errno {
	key := keyOf(x)
	l.places[key] = len(l.state.Trips)
	l.state.Trips = append(l.state.Trips, api.ControlTrip{Key: key, Passenger: x.Draft.Text, Status: api.ControlOrdered})
	return api.OK
}

func (l *ledger) assign(x api.ControlEntry) api.Errno {
	trip, car := l.trip(x), x.Draft.Text
	switch {
	case isSettled(*trip):
		return api.ErrState
	case l.isBusy(car, trip.Key):
		return api.ErrBusy
	}
	trip.Status, trip.Car = api.ControlAssigned, car
	return api.OK
}

// isBusy tells whether a trip other than one is assigned to a car.
func (l *ledger) isBusy(car string, one api.ControlKey) bool {
	return slices.ContainsFunc(l.state.Trips, func(x api.ControlTrip) bool {
		return x.Status == api.ControlAssigned && x.Car == car && x.Key != one
	})
}

func (l *ledger) cancel(x api.ControlEntry) api.Errno {
	trip := l.trip(x)
	if isSettled(*trip) {
		return api.ErrState
	}
	trip.Status, trip.Car = api.ControlCancelled, ""
	return api.OK
}

// isSettled tells whether a trip is carried, billed or cancelled.
func isSettled(x api.ControlTrip) bool {
	return x.Status != api.ControlOrdered && x.Status != api.ControlAssigned
}

func (l *ledger) carry(x api.ControlEntry) api.Errno {
	trip := l.trip(x)
	if trip.Status != api.ControlAssigned {
		return api.ErrState
	}
	fare, e := fareOf(l.tariff, x.Draft.Text)
	if e != api.OK {
		return e
	}
	trip.Status, trip.Fare = api.ControlCarried, fare
	return api.OK
}

func (l *ledger) bill(x api.ControlEntry) api.Errno {
	trip := l.trip(x)
	cents, _ := words.Number(x.Draft.Text, billDigits)
	switch {
	case trip.Status == api.ControlBilled:
		return api.ErrDouble
	case trip.Status != api.ControlCarried:
		return api.ErrState
	case cents != trip.Fare:
		return api.ErrClash
	}
	trip.Status = api.ControlBilled
	return api.OK
}

// keep is for entries that change no trip.
func (l *ledger) keep(api.ControlEntry) api.Errno { return api.OK }
