package share_test

import (
	"fmt"
	"math/rand"
	"reflect"
	"slices"
	"testing"

	"fiacre/api"
	"fiacre/share"
)

// gives returns a function that takes a result and its error, and compares the result with what is wanted. A nil list and an empty one are the same.
func gives(t *testing.T, what string, wanted any) func(got any, e api.Errno) {
	t.Helper()
	return func(got any, e api.Errno) {
		t.Helper()
		if fmt.Sprint(got) != fmt.Sprint(wanted) || e != api.OK {
			t.Errorf("%s: %v, error %d; want %v", what, got, e, wanted)
		}
	}
}

// fails returns a function that takes a result and its error, and wants this error, and nothing beside it.
func fails(t *testing.T, what string, wanted api.Errno) func(got any, e api.Errno) {
	t.Helper()
	return func(got any, e api.Errno) {
		t.Helper()
		if !isNothing(got) || e != wanted {
			t.Errorf("%s: %v, error %d; want the error %d and nothing beside it", what, got, e, wanted)
		}
	}
}

// at returns a function that takes a number and an error, and wants these.
func at(t *testing.T, what string, number int, wanted api.Errno) func(got int, e api.Errno) {
	t.Helper()
	return func(got int, e api.Errno) {
		t.Helper()
		if got != number || e != wanted {
			t.Errorf("%s: the error %d at %d; want %d at %d", what, e, got, wanted, number)
		}
	}
}

func isNothing(x any) bool {
	v := reflect.ValueOf(x)
	if v.Kind() == reflect.Slice {
		return v.Len() == 0
	}
	if v.Kind() != reflect.Struct {
		return v.IsZero()
	}
	for i := range v.NumField() {
		if !isNothing(v.Field(i).Interface()) {
			return false
		}
	}
	return true
}

func first[T any](x T, _ api.Errno) T { return x }

// carOf is what BestCar returns, in one value.
type carOf struct {
	Plan  int
	Offer api.ShareOffer
}

func bestCar(m api.ShareMap, l []api.SharePlan, r api.ShareRider) (carOf, api.Errno) {
	plan, offer, e := share.BestCar(m, l, r)
	return carOf{plan, offer}, e
}

// orderOf is what BestOrder returns, in one value.
type orderOf struct {
	Plan api.SharePlan
	Cost int
}

func bestOrder(m api.ShareMap, p api.SharePlan) (orderOf, api.Errno) {
	plan, cost, e := share.BestOrder(m, p)
	return orderOf{plan, cost}, e
}

// three is the map of the document's examples.
func three() api.ShareMap {
	return api.ShareMap{Times: [][]int{{0, 100, 150}, {100, 0, 100}, {150, 100, 0}}}
}

func ann() api.ShareRider { return api.ShareRider{Name: "ann", From: 0, To: 2, Seats: 1, Detour: 60} }

func bob() api.ShareRider { return api.ShareRider{Name: "bob", From: 1, To: 2, Seats: 1} }

// both is the plan of the document's examples.
func both() api.SharePlan {
	return api.SharePlan{
		Car:    api.ShareCar{At: 0, Time: 0, Seats: 2},
		Riders: []api.ShareRider{ann(), bob()},
		Stops:  []api.ShareStop{{Rider: 0}, {Rider: 1}, {Rider: 1, Out: true}, {Rider: 0, Out: true}},
	}
}

// alone is that plan without bob.
func alone() api.SharePlan {
	p := both()
	p.Riders, p.Stops = p.Riders[:1:1], []api.ShareStop{{Rider: 0}, {Rider: 0, Out: true}}
	return p
}

// riding is a plan with a rider who is aboard.
func riding() api.SharePlan {
	p := both()
	p.Riders[0].Aboard, p.Riders[0].Ridden = true, 5
	p.Stops = p.Stops[1:]
	return p
}

// crowd is a plan of so many riders with two stops each.
func crowd(riders int) api.SharePlan {
	p := api.SharePlan{Car: api.ShareCar{Seats: 8}}
	for i := range riders {
		p.Riders = append(p.Riders, api.ShareRider{Name: fmt.Sprint("r", i), From: i % 3, To: (i + 1) % 3, Seats: 1, Detour: 20000})
		p.Stops = append(p.Stops, api.ShareStop{Rider: i}, api.ShareStop{Rider: i, Out: true})
	}
	return p
}

// with returns the plan of the examples with a change.
func with(change func(p *api.SharePlan)) api.SharePlan {
	p := both()
	change(&p)
	return p
}

// wrong is a map whose times are not right.
func wrong() api.ShareMap {
	m := three()
	m.Times[1][1] = 1
	return m
}

// nameless is a plan with a rider whose name is none.
func nameless() api.SharePlan { return with(func(p *api.SharePlan) { p.Riders[1].Name = "" }) }

func copiedMap(m api.ShareMap) api.ShareMap {
	m.Times = slices.Clone(m.Times)
	for i := range m.Times {
		m.Times[i] = slices.Clone(m.Times[i])
	}
	return m
}

func copiedPlan(p api.SharePlan) api.SharePlan {
	p.Riders, p.Stops = slices.Clone(p.Riders), slices.Clone(p.Stops)
	return p
}

// scale returns one of some sizes of times, so that limits are kept now and broken then.
func scale(r *rand.Rand) int { return []int{2, 10, 400, api.MaxShareTime}[r.Intn(4)] }

// anyMap returns a random right map of at most so many places, with times of a size.
func anyMap(r *rand.Rand, most, size int) api.ShareMap {
	var m api.ShareMap
	places := 2 + r.Intn(most-1)
	for i := range places {
		row := make([]int, places)
		for j := range row {
			if j != i {
				row[j] = r.Intn(size + 1)
			}
		}
		m.Times = append(m.Times, row)
	}
	return m
}

// anyRider returns a random right rider of a name who is not aboard.
func anyRider(r *rand.Rand, m api.ShareMap, name string, size int) api.ShareRider {
	places := r.Perm(len(m.Times))
	x := api.ShareRider{Name: name, From: places[0], To: places[1], Seats: 1 + r.Intn(2), Detour: []int{0, size / 2, size, min(4*size, api.MaxShareTime), api.MaxShareTime}[r.Intn(5)]}
	if r.Intn(3) == 0 {
		x.Ready = r.Intn(5*size + 1)
	}
	if r.Intn(12) == 0 {
		x.Seats = 1 + r.Intn(8)
	}
	return x
}

// anyPlan returns a random right plan of at most so many riders, with times of a size.
func anyPlan(r *rand.Rand, m api.ShareMap, most, size int) api.SharePlan {
	p := api.SharePlan{Car: api.ShareCar{At: r.Intn(len(m.Times)), Time: r.Intn(2 * size), Seats: 1 + r.Intn(8)}}
	taken := 0
	for i := range r.Intn(most + 1) {
		x := anyRider(r, m, fmt.Sprint("n", i), size)
		if taken+x.Seats <= p.Car.Seats && r.Intn(3) == 0 {
			taken += x.Seats
			x.Aboard, x.Ready, x.Ridden = true, 0, r.Intn(size)
		}
		p.Riders = append(p.Riders, x)
	}
	p.Stops = anyStops(r, p.Riders)
	return p
}

// anyStops returns all stops of riders in a random right order.
func anyStops(r *rand.Rand, riders []api.ShareRider) []api.ShareStop {
	var places []int
	for i, x := range riders {
		places = append(places, i)
		if !x.Aboard {
			places = append(places, i)
		}
	}
	r.Shuffle(len(places), func(i, j int) { places[i], places[j] = places[j], places[i] })
	var stops []api.ShareStop
	in := make([]bool, len(riders))
	for _, i := range places {
		stops = append(stops, api.ShareStop{Rider: i, Out: in[i] || riders[i].Aboard})
		in[i] = true
	}
	return stops
}

// placeOf is where a stop is; the stop -1 is where the car begins.
func placeOf(p api.SharePlan, stop int) int {
	if stop < 0 {
		return p.Car.At
	}
	x := p.Riders[p.Stops[stop].Rider]
	if p.Stops[stop].Out {
		return x.To
	}
	return x.From
}

// slowTime is the definition of the time of a stop, with a delay.
func slowTime(m api.ShareMap, p api.SharePlan, stop int, late api.ShareDelay) int {
	if stop < 0 {
		return p.Car.Time
	}
	comes := slowTime(m, p, stop-1, late) + m.Times[placeOf(p, stop-1)][placeOf(p, stop)]
	if stop == late.Stop {
		comes += late.By
	}
	if ready := p.Riders[p.Stops[stop].Rider].Ready; !p.Stops[stop].Out && comes < ready {
		return ready
	}
	return comes
}

func slowTimes(m api.ShareMap, p api.SharePlan, late api.ShareDelay) []int {
	times := make([]int, len(p.Stops))
	for stop := range times {
		times[stop] = slowTime(m, p, stop, late)
	}
	return times
}

// slowSeats is the definition of the seats behind a stop: of each rider one asks whether the rider is in the car then.
func slowSeats(p api.SharePlan, stop int) int {
	seats := 0
	for i, x := range p.Riders {
		in := x.Aboard || slices.Contains(p.Stops[:stop+1], api.ShareStop{Rider: i})
		if in && !slices.Contains(p.Stops[:stop+1], api.ShareStop{Rider: i, Out: true}) {
			seats += x.Seats
		}
	}
	return seats
}

// slowRide is the definition of a ride and its limit, by the times of the stops.
func slowRide(m api.ShareMap, p api.SharePlan, times []int, rider int) api.ShareRide {
	x := p.Riders[rider]
	ride := x.Ridden - p.Car.Time
	for stop, time := range times {
		if p.Stops[stop].Rider == rider && p.Stops[stop].Out {
			ride += time
		} else if p.Stops[stop].Rider == rider {
			ride += p.Car.Time - time
		}
	}
	return api.ShareRide{Ride: ride, Most: m.Times[x.From][x.To] + x.Detour}
}

// slowBroken is the definition of the first limit that is broken, if one is.
func slowBroken(m api.ShareMap, p api.SharePlan, late api.ShareDelay) (api.ShareBroken, bool) {
	times := slowTimes(m, p, late)
	for stop, x := range p.Stops {
		if slowSeats(p, stop) > p.Car.Seats {
			return api.ShareBroken{Kind: api.ShareSeats, Number: stop}, true
		}
		if ride := slowRide(m, p, times, x.Rider); x.Out && ride.Ride > ride.Most {
			return api.ShareBroken{Kind: api.ShareDetour, Number: x.Rider}, true
		}
	}
	return api.ShareBroken{}, false
}

func slowKeeps(m api.ShareMap, p api.SharePlan) bool {
	_, broken := slowBroken(m, p, api.ShareDelay{})
	return !broken
}

// slowCost is the definition of the cost of a plan.
func slowCost(m api.ShareMap, p api.SharePlan) int {
	return slowTime(m, p, len(p.Stops)-1, api.ShareDelay{}) - p.Car.Time
}

// slowInserted is the definition of a plan with a rider more: of the new stops two are the rider's, and the others have their order.
func slowInserted(p api.SharePlan, x api.ShareRider, in, out int) api.SharePlan {
	with := api.SharePlan{Car: p.Car}
	with.Riders = append(append(with.Riders, p.Riders...), x)
	others := p.Stops
	for stop := range len(p.Stops) + 2 {
		if stop == in || stop == out {
			with.Stops = append(with.Stops, api.ShareStop{Rider: len(p.Riders), Out: stop == out})
			continue
		}
		with.Stops = append(with.Stops, others[0])
		others = others[1:]
	}
	return with
}

// slowOffers is the definition of all offers for a rider.
func slowOffers(m api.ShareMap, p api.SharePlan, x api.ShareRider) []api.ShareOffer {
	var offers []api.ShareOffer
	for in := 0; in <= len(p.Stops); in++ {
		for out := in + 1; out <= len(p.Stops)+1; out++ {
			if with := slowInserted(p, x, in, out); slowKeeps(m, with) {
				offers = append(offers, api.ShareOffer{In: in, Out: out, Cost: slowCost(m, with)})
			}
		}
	}
	return offers
}

// slowBest is the definition of the best one of some offers.
func slowBest(offers []api.ShareOffer) api.ShareOffer {
	best := offers[0]
	for _, x := range offers {
		if x.Cost < best.Cost {
			best = x
		}
	}
	return best
}
