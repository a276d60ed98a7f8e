package share_test

import (
	"fmt"
	"math"
	"math/rand"
	"slices"
	"strings"
	"testing"

	"fiacre/api"
	"fiacre/share"
)

type plan = *api.SharePlan

// TestCheckPlan is of P6.2: the errors of a plan, where they are, and which comes first.
func TestCheckPlan(t *testing.T) {
	for _, x := range []struct {
		what   string
		change func(p plan)
		number int
		e      api.Errno
	}{
		{"the example", func(p plan) {}, 0, api.OK},
		{"nobody", func(p plan) { p.Riders, p.Stops = nil, nil }, 0, api.OK},
		{"as many riders as can be", func(p plan) { *p = crowd(6) }, 0, api.OK},
		{"a rider aboard", func(p plan) { *p = riding() }, 0, api.OK},
		{"one who gets out ahead of others", func(p plan) { p.Stops = first(share.ParseStops(p.Riders, "+ann -ann +bob -bob")) }, 0, api.OK},
		{"the least numbers", func(p plan) { p.Car.Time, p.Car.Seats, p.Riders[0].Seats, p.Riders[0].Detour = 0, 1, 1, 0 }, 0, api.OK},
		{"the greatest numbers", func(p plan) {
			p.Car.Time, p.Car.Seats = 1000000, 8
			p.Riders[1].Seats, p.Riders[1].Detour, p.Riders[1].Ready = 8, 20000, 1000000
		}, 0, api.OK},
		{"the longest ride", func(p plan) { *p = riding(); p.Riders[0].Ridden = 20000 }, 0, api.OK},
		{"limits are nothing to it", func(p plan) { p.Car.Seats, p.Riders[1].Seats, p.Riders[0].Detour = 1, 8, 0 }, 0, api.OK},
		{"capital letters differ", func(p plan) { p.Riders[1].Name = "Ann" }, 0, api.OK},
		{"all seats are taken aboard", func(p plan) { *p = riding(); p.Riders[0].Seats = 2 }, 0, api.OK},

		{"a car nowhere", func(p plan) { p.Car.At = 3 }, 0, api.ErrMissing},
		{"a car below 0", func(p plan) { p.Car.At = -1 }, 0, api.ErrMissing},
		{"places ahead of times", func(p plan) { p.Car = api.ShareCar{At: 3, Time: -1} }, 0, api.ErrMissing},
		{"a time below 0", func(p plan) { p.Car.Time = -1 }, 0, api.ErrRange},
		{"a time too late", func(p plan) { p.Car.Time = 1000001 }, 0, api.ErrRange},
		{"a car without seats", func(p plan) { p.Car.Seats = 0 }, 0, api.ErrRange},
		{"a car with nine seats", func(p plan) { p.Car.Seats = 9 }, 0, api.ErrRange},
		{"the car ahead of riders", func(p plan) { p.Car.Seats, p.Riders = 0, make([]api.ShareRider, 7) }, 0, api.ErrRange},

		{"seven riders", func(p plan) { *p = crowd(7) }, 0, api.ErrLarge},
		{"seven riders ahead of their names", func(p plan) { p.Riders = make([]api.ShareRider, 7) }, 0, api.ErrLarge},
		{"no name", func(p plan) { p.Riders[1].Name = "" }, 1, api.ErrName},
		{"a long name", func(p plan) { p.Riders[1].Name = "abcdefghijklm" }, 1, api.ErrName},
		{"a sign in a name", func(p plan) { p.Riders[0].Name = "+ann" }, 0, api.ErrName},
		{"the same name", func(p plan) { p.Riders[1].Name = "ann" }, 1, api.ErrExists},
		{"from nowhere", func(p plan) { p.Riders[1].From = 3 }, 1, api.ErrMissing},
		{"from below 0", func(p plan) { p.Riders[1].From = -1 }, 1, api.ErrMissing},
		{"to nowhere", func(p plan) { p.Riders[1].To = 3 }, 1, api.ErrMissing},
		{"to below 0", func(p plan) { p.Riders[1].To = math.MinInt }, 1, api.ErrMissing},
		{"from nowhere to nowhere", func(p plan) { p.Riders[1].From, p.Riders[1].To = 3, 3 }, 1, api.ErrMissing},
		{"to where one is", func(p plan) { p.Riders[1].From = 2 }, 1, api.ErrClash},
		{"no seat", func(p plan) { p.Riders[1].Seats = 0 }, 1, api.ErrRange},
		{"nine seats", func(p plan) { p.Riders[1].Seats = 9 }, 1, api.ErrRange},
		{"a detour below 0", func(p plan) { p.Riders[1].Detour = -1 }, 1, api.ErrRange},
		{"a detour too long", func(p plan) { p.Riders[1].Detour = 20001 }, 1, api.ErrRange},
		{"ready below 0", func(p plan) { p.Riders[1].Ready = -1 }, 1, api.ErrRange},
		{"ready too late", func(p plan) { p.Riders[1].Ready = 1000001 }, 1, api.ErrRange},
		{"ridden below 0", func(p plan) { *p = riding(); p.Riders[0].Ridden = -1 }, 0, api.ErrRange},
		{"ridden too long", func(p plan) { *p = riding(); p.Riders[0].Ridden = 20001 }, 0, api.ErrRange},
		{"ridden, and not aboard", func(p plan) { p.Riders[1].Ridden = 1 }, 1, api.ErrForm},
		{"ready, and aboard", func(p plan) { *p = riding(); p.Riders[0].Ready = 1 }, 0, api.ErrForm},
		{"names ahead of names that are there", func(p plan) { p.Riders[0].Name, p.Riders[1].Name = "7", "7" }, 0, api.ErrName},
		{"names that are there ahead of places", func(p plan) { p.Riders[1].Name, p.Riders[1].From = "ann", 9 }, 1, api.ErrExists},
		{"the same place ahead of numbers", func(p plan) { p.Riders[1].From, p.Riders[1].Seats = 2, 0 }, 1, api.ErrClash},
		{"numbers ahead of forms", func(p plan) { p.Riders[1].Ridden, p.Riders[1].Ready = 1, -1 }, 1, api.ErrRange},
		{"rider by rider", func(p plan) { p.Riders[0].Ridden, p.Riders[1].Name = 1, "" }, 0, api.ErrForm},

		{"too many seats aboard", func(p plan) { *p = riding(); p.Riders[0].Seats = 3 }, 0, api.ErrFull},
		{"too many seats of two aboard", func(p plan) { *p = riding(); p.Riders[1].Aboard, p.Car.Seats = true, 1 }, 0, api.ErrFull},
		{"riders ahead of seats aboard", func(p plan) { *p = riding(); p.Riders[0].Seats, p.Riders[1].Seats = 3, 0 }, 1, api.ErrRange},
		{"seats aboard ahead of stops", func(p plan) { *p = riding(); p.Riders[0].Seats, p.Stops[1].Rider = 3, 9 }, 0, api.ErrFull},

		{"a stop of nobody", func(p plan) { p.Stops[2].Rider = 2 }, 2, api.ErrMissing},
		{"a stop of one below 0", func(p plan) { p.Stops[1].Rider = -1 }, 1, api.ErrMissing},
		{"out of nobody", func(p plan) { p.Stops[0] = api.ShareStop{Rider: math.MaxInt, Out: true} }, 0, api.ErrMissing},
		{"in twice", func(p plan) { p.Stops[2] = p.Stops[0] }, 2, api.ErrDouble},
		{"out twice", func(p plan) { p.Stops = append(p.Stops, p.Stops[2]) }, 4, api.ErrDouble},
		{"in again", func(p plan) { p.Stops = append(p.Stops, p.Stops[0]) }, 4, api.ErrDouble},
		{"in of one aboard", func(p plan) { *p = riding(); p.Stops = append(p.Stops, api.ShareStop{}) }, 3, api.ErrState},
		{"in of one aboard ahead of out", func(p plan) { *p = riding(); p.Stops = slices.Insert(p.Stops, 0, api.ShareStop{}) }, 0, api.ErrState},
		{"out ahead of in", func(p plan) { p.Stops[1], p.Stops[2] = p.Stops[2], p.Stops[1] }, 1, api.ErrOrder},
		{"out without in", func(p plan) { p.Stops = slices.Delete(p.Stops, 0, 1) }, 2, api.ErrOrder},
		{"stop by stop", func(p plan) { p.Stops[0].Out, p.Stops[1].Rider = true, 9 }, 0, api.ErrOrder},

		{"one who does not get out", func(p plan) { p.Stops = p.Stops[:3] }, 0, api.ErrGap},
		{"another one who does not get out", func(p plan) { p.Stops = slices.Delete(p.Stops, 2, 3) }, 1, api.ErrGap},
		{"one aboard who does not get out", func(p plan) { *p = riding(); p.Stops = p.Stops[:2] }, 0, api.ErrGap},
		{"one without stops", func(p plan) { p.Stops = slices.Delete(p.Stops, 1, 3) }, 1, api.ErrGap},
		{"no stops", func(p plan) { p.Stops = nil }, 0, api.ErrGap},
		{"stops ahead of those who do not get out", func(p plan) { p.Stops = append(p.Stops[:2], p.Stops[1]) }, 2, api.ErrDouble},
	} {
		p := both()
		x.change(&p)
		at(t, "CheckPlan: "+x.what, x.number, x.e)(share.CheckPlan(three(), p))
		at(t, "CheckPlan on a wrong map: "+x.what, 0, api.ErrZero)(share.CheckPlan(wrong(), p))
		if x.e != api.OK {
			failsAll(t, x.what, x.e, three(), p)
		}
		failsAll(t, x.what+", on a wrong map", api.ErrZero, wrong(), p)
	}
}

// failsAll wants of all functions of a plan its error, ahead of all errors of further arguments.
func failsAll(t *testing.T, what string, e api.Errno, m api.ShareMap, p api.SharePlan) {
	t.Helper()
	fails(t, "TimesOf: "+what, e)(share.TimesOf(m, p))
	fails(t, "SeatsAt: "+what, e)(share.SeatsAt(m, p))
	fails(t, "CostOf: "+what, e)(share.CostOf(m, p))
	fails(t, "RideOf: "+what, e)(share.RideOf(m, p, -1))
	fails(t, "FirstBroken: "+what, e)(share.FirstBroken(m, p))
	fails(t, "Without: "+what, e)(share.Without(m, p, -1))
	fails(t, "Inserted: "+what, e)(share.Inserted(m, p, api.ShareInsert{}))
	fails(t, "Inserts: "+what, e)(share.Inserts(m, p, api.ShareRider{}))
	fails(t, "BestInsert: "+what, e)(share.BestInsert(m, p, api.ShareRider{}))
	fails(t, "BestCar: "+what, e)(bestCar(m, []api.SharePlan{p}, api.ShareRider{}))
	fails(t, "Delayed: "+what, e)(share.Delayed(m, p, api.ShareDelay{Stop: -1, By: -1}))
	fails(t, "GreatestDelay: "+what, e)(share.GreatestDelay(m, p, -1))
	fails(t, "BestOrder: "+what, e)(bestOrder(m, p))
}

// TestExamples is of P6.2 and P6.5, by the document's examples.
func TestExamples(t *testing.T) {
	gives(t, "the times", "[0 100 200 200]")(share.TimesOf(three(), both()))
	gives(t, "the seats", "[1 2 1 0]")(share.SeatsAt(three(), both()))
	gives(t, "ann's ride", "{200 210}")(share.RideOf(three(), both(), 0))
	gives(t, "bob's ride", "{100 100}")(share.RideOf(three(), both(), 1))
	gives(t, "the cost", 200)(share.CostOf(three(), both()))
	fails(t, "limits", api.ErrNone)(share.FirstBroken(three(), both()))
	fails(t, "limits with a detour just long enough", api.ErrNone)(share.FirstBroken(three(), with(func(p plan) { p.Riders[0].Detour = 50 })))
	gives(t, "limits with a short detour", api.ShareBroken{Kind: api.ShareDetour, Number: 0})(share.FirstBroken(three(), with(func(p plan) { p.Riders[0].Detour = 40 })))
	gives(t, "limits with one seat", api.ShareBroken{Kind: api.ShareSeats, Number: 1})(share.FirstBroken(three(), with(func(p plan) { p.Car.Seats = 1 })))
	late := with(func(p plan) { p.Riders[1].Ready = 150 })
	gives(t, "the times if bob is late", "[0 150 250 250]")(share.TimesOf(three(), late))
	gives(t, "limits if bob is late", api.ShareBroken{Kind: api.ShareDetour, Number: 0})(share.FirstBroken(three(), late))
	gives(t, "the greatest delay of the stop 1", 10)(share.GreatestDelay(three(), both(), 1))
	gives(t, "the greatest delay of the stop 0", 20000)(share.GreatestDelay(three(), both(), 0))
}

// TestNobody is of P6.2: a car without riders.
func TestNobody(t *testing.T) {
	p := api.SharePlan{Car: api.ShareCar{At: 1, Time: 7, Seats: 1}}
	gives(t, "the times", "[]")(share.TimesOf(three(), p))
	gives(t, "the seats", "[]")(share.SeatsAt(three(), p))
	gives(t, "the cost", 0)(share.CostOf(three(), p))
	fails(t, "limits", api.ErrNone)(share.FirstBroken(three(), p))
	fails(t, "a ride", api.ErrMissing)(share.RideOf(three(), p, 0))
}

// TestAboard is of P6.2: riders who are in the car already.
func TestAboard(t *testing.T) {
	p := riding()
	p.Car.Time = 40
	gives(t, "the times", "[140 240 240]")(share.TimesOf(three(), p))
	gives(t, "the seats", "[2 1 0]")(share.SeatsAt(three(), p))
	gives(t, "the ride", "{205 210}")(share.RideOf(three(), p, 0))
	p.Riders[0].Ridden = 11
	gives(t, "limits", api.ShareBroken{Kind: api.ShareDetour, Number: 0})(share.FirstBroken(three(), p))
	gives(t, "the cost", 200)(share.CostOf(three(), p))
}

// TestSamePlace is of P6.2: at one place and time the order of the stops counts for the seats.
func TestSamePlace(t *testing.T) {
	p := both()
	p.Car.Seats = 1
	p.Riders[0].To = 1
	p.Stops = first(share.ParseStops(p.Riders, "+ann -ann +bob -bob"))
	gives(t, "the times", "[0 100 100 200]")(share.TimesOf(three(), p))
	fails(t, "out ahead of in", api.ErrNone)(share.FirstBroken(three(), p))
	p.Stops = first(share.ParseStops(p.Riders, "+ann +bob -ann -bob"))
	gives(t, "the times", "[0 100 100 200]")(share.TimesOf(three(), p))
	gives(t, "in ahead of out", api.ShareBroken{Kind: api.ShareSeats, Number: 1})(share.FirstBroken(three(), p))
}

// TestFigures is of P6.2: times, seats, rides, costs and limits are those of the definitions.
func TestFigures(t *testing.T) {
	r := rand.New(rand.NewSource(63))
	broken := map[int]int{}
	for range 3000 {
		size := scale(r)
		m := anyMap(r, 12, size)
		p := anyPlan(r, m, 6, size)
		what := fmt.Sprint(" of ", m, p)
		at(t, "CheckPlan"+what, 0, api.OK)(share.CheckPlan(m, p))
		times := slowTimes(m, p, api.ShareDelay{})
		seats := make([]int, len(p.Stops))
		for stop := range seats {
			seats[stop] = slowSeats(p, stop)
		}
		gives(t, "TimesOf"+what, times)(share.TimesOf(m, p))
		gives(t, "SeatsAt"+what, seats)(share.SeatsAt(m, p))
		gives(t, "CostOf"+what, slowCost(m, p))(share.CostOf(m, p))
		for rider := range p.Riders {
			gives(t, "RideOf"+what, slowRide(m, p, times, rider))(share.RideOf(m, p, rider))
		}
		if limit, isBroken := slowBroken(m, p, api.ShareDelay{}); isBroken {
			gives(t, "FirstBroken"+what, limit)(share.FirstBroken(m, p))
			broken[limit.Kind]++
		} else {
			fails(t, "FirstBroken"+what, api.ErrNone)(share.FirstBroken(m, p))
			broken[-1]++
		}
	}
	for _, kind := range []int{-1, api.ShareSeats, api.ShareDetour} {
		if broken[kind] < 300 {
			t.Errorf("of too few plans the first limit is %d: %v", kind, broken)
		}
	}
}

// TestRideErrors is of P6.2: the ride of nobody.
func TestRideErrors(t *testing.T) {
	for _, number := range []int{-1, 2, math.MinInt, math.MaxInt} {
		fails(t, "RideOf of nobody", api.ErrMissing)(share.RideOf(three(), both(), number))
	}
}

// TestLater is of P6.8: if all is later, all times are, and nothing else changes; at the end the car is empty.
func TestLater(t *testing.T) {
	r := rand.New(rand.NewSource(64))
	figures := func(m api.ShareMap, p api.SharePlan, x api.ShareRider) string {
		var text strings.Builder
		for rider := range p.Riders {
			fmt.Fprint(&text, first(share.RideOf(m, p, rider)))
		}
		fmt.Fprint(&text, first(share.CostOf(m, p)), first(share.Inserts(m, p, x)), first(share.BestInsert(m, p, x)))
		return text.String()
	}
	for range 600 {
		size := scale(r)
		m := anyMap(r, 12, size)
		p := anyPlan(r, m, 5, size)
		x := anyRider(r, m, "new", size)
		if seats := first(share.SeatsAt(m, p)); len(seats) > 0 && seats[len(seats)-1] != 0 {
			t.Errorf("the seats of %v: %v", p, seats)
		}
		by := r.Intn(5000)
		later, y := copiedPlan(p), x
		later.Car.Time += by
		y.Ready += by
		for i := range later.Riders {
			if !later.Riders[i].Aboard {
				later.Riders[i].Ready += by
			}
		}
		times := slices.Clone(first(share.TimesOf(m, p)))
		for i := range times {
			times[i] += by
		}
		what := fmt.Sprint(m, p, " later by ", by)
		gives(t, "TimesOf "+what, times)(share.TimesOf(m, later))
		gives(t, "the figures of "+what, figures(m, p, x))(figures(m, later, y), api.OK)
	}
}
