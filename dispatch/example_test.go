package dispatch_test

import (
	"fmt"

	"fiacre/api"
	"fiacre/dispatch"
)

func Example() {
	r := api.DispatchRound{
		Cars:   []api.DispatchCar{{Name: "a", Seats: 4}, {Name: "b", Seats: 4}},
		Orders: []api.DispatchOrder{{Name: "p", Seats: 1}, {Name: "q", Seats: 1}},
		Wait:   [][]int{{100, 200}, {150, 400}},
	}
	best, e := dispatch.Best(r)
	fmt.Println(best.Plan, best.Cost, e)
	bound, e := dispatch.CheckPrices(r, best.Prices)
	fmt.Println(bound, e)
	text, e := dispatch.FormatPlan(r, best.Plan)
	fmt.Println(text, e)
	longest, _, e := dispatch.LeastLongest(r)
	fmt.Println(longest, e)
	alone, e := dispatch.Withdrawn(r, 1)
	fmt.Println(len(alone.Cars), e)
	most, e := dispatch.MostServed(alone)
	fmt.Println(most, e)
	orders, e := dispatch.Hall(alone)
	fmt.Println(orders, e)
	fair, e := dispatch.Fair(r, []int{2, 0}, 30)
	fmt.Println(fair.Wait, e)
	// Output:
	// [1 0] 350 0
	// 350 0
	// p=b;q=a 0
	// 200 0
	// 1 0
	// 1 0
	// [0 1] 0
	// [[160 200] [210 400]] 0
}
