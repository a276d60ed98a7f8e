package share

import (
	"slices"

	"fiacre/api"
)

// A tour is a right plan on its map, with the time of each stop, and the seats that are taken behind it.
type tour struct {
	api.ShareMap
	api.SharePlan
	times, seats []int
}

// drive returns the tour of a right plan.
func drive(m api.ShareMap, p api.SharePlan) tour { return driveLate(m, p, api.ShareDelay{}) }

// driveLate returns the tour of a right plan with a delay.
func driveLate(m api.ShareMap, p api.SharePlan, delay api.ShareDelay) tour {
	t := tour{ShareMap: m, SharePlan: p}
	place, time, seats := p.Car.At, p.Car.Time, seatsAboard(p.Riders)
	for i, stop := range p.Stops {
		rider := p.Riders[stop.Rider]
		next := rider.From
		if stop.Out {
			next = rider.To
		}
		time += m.Times[place][next]
		if i == delay.Stop {
			time += delay.By
		}
		if stop.Out {
			seats -= rider.Seats
		} else {
			seats += rider.Seats
			time = max(time, rider.Ready)
		}
		place = next
		t.times, t.seats = append(t.times, time), append(t.seats, seats)
	}
	return t
}

// comesTo returns what a plan comes to if it and its map are right, or the first error of all.
func comesTo[T any](m api.ShareMap, p api.SharePlan, what func(t tour) (T, api.Errno)) (T, api.Errno) {
	if _, e := CheckPlan(m, p); e != api.OK {
		var nothing T
		return nothing, e
	}
	return what(drive(m, p))
}

// TimesOf returns the times of all stops.
func TimesOf(m api.ShareMap, p api.SharePlan) ([]int, api.Errno) {
	return comesTo(m, p, func(t tour) ([]int, api.Errno) { return t.times, api.OK })
}

// SeatsAt returns the seats that are taken behind each stop.
func SeatsAt(m api.ShareMap, p api.SharePlan) ([]int, api.Errno) {
	return comesTo(m, p, func(t tour) ([]int, api.Errno) { return t.seats, api.OK })
}

// CostOf returns the cost of a plan.
func CostOf(m api.ShareMap, p api.SharePlan) (int, api.Errno) {
	return comesTo(m, p, func(t tour) (int, api.Errno) { return t.cost(), api.OK })
}

func (t tour) cost() int {
	if len(t.times) == 0 {
		return 0
	}
	return t.times[len(t.times)-1] - t.Car.Time
}

// RideOf returns how long the ride of a rider is, and how long it may be.
func RideOf(m api.ShareMap, p api.SharePlan, rider int) (api.ShareRide, api.Errno) {
	return comesTo(m, p, func(t tour) (api.ShareRide, api.Errno) {
		if e := errorOfNumber(rider, len(t.Riders)); e != api.OK {
			return api.ShareRide{}, e
		}
		return t.rideOf(rider), api.OK
	})
}

func (t tour) rideOf(rider int) api.ShareRide {
	r := t.Riders[rider]
	begun := t.Car.Time - r.Ridden
	if !r.Aboard {
		begun = t.timeOf(getsIn(rider))
	}
	return api.ShareRide{Ride: t.timeOf(getsOut(rider)) - begun, Most: t.Times[r.From][r.To] + r.Detour}
}

func (t tour) timeOf(stop api.ShareStop) int { return t.times[slices.Index(t.Stops, stop)] }

// FirstBroken returns the first limit that a plan breaks.
func FirstBroken(m api.ShareMap, p api.SharePlan) (api.ShareBroken, api.Errno) {
	return comesTo(m, p, tour.firstBroken)
}

func (t tour) firstBroken() (api.ShareBroken, api.Errno) {
	for i, stop := range t.Stops {
		if t.seats[i] > t.Car.Seats {
			return api.ShareBroken{Kind: api.ShareSeats, Number: i}, api.OK
		}
		if !stop.Out {
			continue
		}
		if ride := t.rideOf(stop.Rider); ride.Ride > ride.Most {
			return api.ShareBroken{Kind: api.ShareDetour, Number: stop.Rider}, api.OK
		}
	}
	return api.ShareBroken{}, api.ErrNone
}

func (t tour) keepsLimits() bool {
	_, e := t.firstBroken()
	return e == api.ErrNone
}
