package street_test

import (
	"fmt"

	"fiacre/api"
	"fiacre/street"
)

func Example() {
	n, line, e := street.Parse("place a\nplace b\nplace c\nroad x a b 1000\ntime 0 100 200\ntime 3600 700 800\n" +
		"road y b c 500\ntime 0 60 90\nroad z a c 2000\ntime 0 900 900\n")
	fmt.Println(len(n.Places), line, e)
	trip := api.StreetTrip{From: 0, To: 2, At: 0}
	arrival, e := street.Estimate(n, trip)
	fmt.Println(arrival, e)
	labels, e := street.Earliest(n, 0, 0)
	fmt.Println(labels, e)
	bound, e := street.CheckLabels(n, trip, labels)
	fmt.Println(bound, e)
	way, metres, e := street.Shortest(n, 0, 2)
	fmt.Println(way, metres, e)
	latest, e := street.LatestFor(n, api.StreetTrip{From: 0, To: 2, At: 292})
	fmt.Println(latest, e)
	_, line, e = street.Parse("place a\nroad x a\n")
	fmt.Println(line, e)
	// Output:
	// 3 0 0
	// {160 290} 0
	// {[0 100 160] [0 200 290]} 0
	// {160 290} 0
	// [0 1] 1500 0
	// 1 0
	// 2 7
}
