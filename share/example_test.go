package share_test

import (
	"fmt"

	"fiacre/api"
	"fiacre/share"
)

func Example() {
	m := api.ShareMap{Times: [][]int{{0, 100, 150}, {100, 0, 100}, {150, 100, 0}}}
	p := api.SharePlan{Car: api.ShareCar{Seats: 2}, Riders: []api.ShareRider{{Name: "ann", From: 0, To: 2, Seats: 1, Detour: 60}}}
	stops, e := share.ParseStops(p.Riders, "+ann -ann")
	p.Stops = stops
	fmt.Println(stops, e)
	cost, e := share.CostOf(m, p)
	fmt.Println(cost, e)
	bob := api.ShareRider{Name: "bob", From: 1, To: 2, Seats: 1}
	offer, e := share.BestInsert(m, p, bob)
	fmt.Println(offer, e)
	p, e = share.Inserted(m, p, api.ShareInsert{Rider: bob, In: offer.In, Out: offer.Out})
	fmt.Println(share.FormatStops(p), e)
	times, e := share.TimesOf(m, p)
	fmt.Println(times, e)
	ride, e := share.RideOf(m, p, 0)
	fmt.Println(ride, e)
	late, e := share.GreatestDelay(m, p, 1)
	fmt.Println(late, e)
	best, cost, e := share.BestOrder(m, p)
	fmt.Println(share.FormatStops(best), cost, e)
	// Output:
	// [{0 false} {0 true}] 0
	// 150 0
	// {1 2 200} 0
	// +ann +bob -bob -ann 0
	// [0 100 200 200] 0
	// {200 210} 0
	// 10 0
	// +ann +bob -ann -bob 200 0
}
