package share_test

import (
	"fmt"
	"math/rand"
	"slices"
	"testing"

	"fiacre/api"
	"fiacre/share"
)

// isAhead is the definition of stops that come before others.
func isAhead(a, b []api.ShareStop) bool {
	for i := range a {
		if a[i] != b[i] {
			return a[i].Rider < b[i].Rider || a[i].Rider == b[i].Rider && !a[i].Out
		}
	}
	return false
}

// eachOrder hands all plans over whose stops have another order, in no order.
func eachOrder(p api.SharePlan, do func(other api.SharePlan)) {
	used := make([]bool, len(p.Stops))
	other := api.SharePlan{Car: p.Car, Riders: p.Riders}
	var goOn func()
	goOn = func() {
		if len(other.Stops) == len(p.Stops) {
			do(other)
			return
		}
		for i, stop := range slices.Backward(p.Stops) {
			in := p.Riders[stop.Rider].Aboard || slices.Contains(other.Stops, api.ShareStop{Rider: stop.Rider})
			if used[i] || stop.Out && !in {
				continue
			}
			used[i] = true
			other.Stops = append(other.Stops, stop)
			goOn()
			used[i] = false
			other.Stops = other.Stops[:len(other.Stops)-1]
		}
	}
	goOn()
}

// slowOrder is the definition of the best order, if there is one.
func slowOrder(m api.ShareMap, p api.SharePlan) (orderOf, bool) {
	var best orderOf
	found := false
	eachOrder(p, func(other api.SharePlan) {
		if !slowKeeps(m, other) {
			return
		}
		cost := slowCost(m, other)
		if !found || cost < best.Cost || cost == best.Cost && isAhead(other.Stops, best.Plan.Stops) {
			best, found = orderOf{copiedPlan(other), cost}, true
		}
	})
	return best, found
}

// TestBestOrder is of P6.6: the document's riders, and orders that cost the same.
func TestBestOrder(t *testing.T) {
	better := both()
	better.Stops = first(share.ParseStops(better.Riders, "+ann +bob -ann -bob"))
	gives(t, "the example", orderOf{better, 200})(bestOrder(three(), both()))
	gives(t, "an order that costs more", orderOf{better, 200})(bestOrder(three(), with(func(p plan) { p.Stops = first(share.ParseStops(p.Riders, "+bob -bob +ann -ann")) })))
	single := with(func(p plan) { p.Car.Seats = 1 })
	wanted := first(share.ParseStops(single.Riders, "+ann -ann +bob -bob"))
	gives(t, "one by one", orderOf{api.SharePlan{Car: single.Car, Riders: single.Riders, Stops: wanted}, 350})(bestOrder(three(), single))
	gives(t, "nobody", orderOf{Plan: api.SharePlan{Car: api.ShareCar{Seats: 1}}})(bestOrder(three(), api.SharePlan{Car: api.ShareCar{Seats: 1}}))
	late := riding()
	late.Riders[0].Ridden = 20000
	fails(t, "a ride that is too long already", api.ErrNone)(bestOrder(three(), late))
	fails(t, "more seats than the car has", api.ErrNone)(bestOrder(three(), with(func(p plan) { p.Riders[1].Seats = 3 })))
	fails(t, "five riders", api.ErrLarge)(bestOrder(three(), crowd(5)))
	gives(t, "the stops of four riders", 8)(len(first(bestOrder(three(), crowd(4))).Plan.Stops), api.OK)
}

// TestAnyBestOrder is of P6.6 and P6.9: of all orders the one that costs least, and of these the first one.
func TestAnyBestOrder(t *testing.T) {
	r := rand.New(rand.NewSource(73))
	none := 0
	for i := range 600 {
		size := scale(r)
		m := anyMap(r, 6, size)
		p := anyPlan(r, m, []int{2, 3, 3, 4}[i%4], size)
		what := fmt.Sprint("BestOrder of ", m, p)
		wanted, found := slowOrder(m, p)
		if !found {
			none++
			fails(t, what, api.ErrNone)(bestOrder(m, p))
			continue
		}
		gives(t, what, wanted)(bestOrder(m, p))
		at(t, what, 0, api.OK)(share.CheckPlan(m, wanted.Plan))
		fails(t, "the limits of "+what, api.ErrNone)(share.FirstBroken(m, wanted.Plan))
		gives(t, "the cost of "+what, wanted.Cost)(share.CostOf(m, wanted.Plan))
	}
	if none < 50 || none > 400 {
		t.Errorf("%d of 600 plans have no order", none)
	}
}

// TestFourRiders is of P6.6 with as many stops as there can be, on a map on which many orders cost the same.
func TestFourRiders(t *testing.T) {
	r := rand.New(rand.NewSource(74))
	for range 20 {
		m := anyMap(r, 3, 2)
		p := crowd(4)
		for i := range p.Riders {
			p.Riders[i] = anyRider(r, m, p.Riders[i].Name, 2)
			p.Riders[i].Detour = 8
		}
		if wanted, found := slowOrder(m, p); found {
			gives(t, fmt.Sprint("BestOrder of ", m, p), wanted)(bestOrder(m, p))
		}
	}
}
