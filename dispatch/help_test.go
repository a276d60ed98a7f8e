package dispatch_test

import (
	"fmt"
	"math/rand"
	"reflect"
	"slices"
	"testing"

	"fiacre/api"
	"fiacre/dispatch"
)

// gives returns a function that takes a result and its error, and compares the result with what is wanted. A nil list and an empty one are the same.
func gives(t *testing.T, what string, wanted any) func(got any, e api.Errno) {
	t.Helper()
	return func(got any, e api.Errno) {
		t.Helper()
		if fmt.Sprint(got) != fmt.Sprint(wanted) || e != api.OK {
			t.Errorf("%s: %v, error %d; want %v", what, got, e, wanted)
		}
	}
}

// fails returns a function that takes a result and its error, and wants this error, and nothing beside it.
func fails(t *testing.T, what string, wanted api.Errno) func(got any, e api.Errno) {
	t.Helper()
	return func(got any, e api.Errno) {
		t.Helper()
		if !isNothing(got) || e != wanted {
			t.Errorf("%s: %v, error %d; want the error %d and nothing beside it", what, got, e, wanted)
		}
	}
}

// at returns a function that takes a number and an error, and wants these.
func at(t *testing.T, what string, number int, wanted api.Errno) func(got int, e api.Errno) {
	t.Helper()
	return func(got int, e api.Errno) {
		t.Helper()
		if got != number || e != wanted {
			t.Errorf("%s: the error %d at %d; want %d at %d", what, e, got, wanted, number)
		}
	}
}

func isNothing(x any) bool {
	v := reflect.ValueOf(x)
	if v.Kind() == reflect.Slice {
		return v.Len() == 0
	}
	if v.Kind() != reflect.Struct {
		return v.IsZero()
	}
	for i := range v.NumField() {
		if !isNothing(v.Field(i).Interface()) {
			return false
		}
	}
	return true
}

func first[T any](x T, _ api.Errno) T { return x }

// longestOf is what LeastLongest returns, in one value.
type longestOf struct {
	Longest int
	Plan    []int
}

func leastLongest(r api.DispatchRound) (longestOf, api.Errno) {
	longest, plan, e := dispatch.LeastLongest(r)
	return longestOf{longest, plan}, e
}

// two is the round of the document's examples.
func two() api.DispatchRound {
	return api.DispatchRound{
		Cars:   []api.DispatchCar{{Name: "a", Seats: 4}, {Name: "b", Seats: 4}},
		Orders: []api.DispatchOrder{{Name: "p", Seats: 1}, {Name: "q", Seats: 1}},
		Wait:   [][]int{{100, 200}, {150, 400}},
	}
}

// full is a round of as many cars and orders as there can be, each fit for each.
func full() api.DispatchRound {
	var r api.DispatchRound
	for i := range 8 {
		r.Cars = append(r.Cars, api.DispatchCar{Name: fmt.Sprint("c", i), Seats: 8, Chair: true})
		r.Orders = append(r.Orders, api.DispatchOrder{Name: fmt.Sprint("o", i), Seats: 1 + i, Priority: i % 7})
		row := make([]int, 8)
		for j := range row {
			row[j] = (i*13 + j*29) % 101
		}
		r.Wait = append(r.Wait, row)
	}
	return r
}

// allPairs is all pairs of orders and cars of a round.
func allPairs(r api.DispatchRound) [][2]int {
	var pairs [][2]int
	for order := range r.Orders {
		for car := range r.Cars {
			pairs = append(pairs, [2]int{order, car})
		}
	}
	return pairs
}

// nameless is a round with an order whose name is none.
func nameless() api.DispatchRound {
	r := two()
	r.Orders[1].Name = ""
	return r
}

// with returns the round of the examples with a change.
func with(change func(r *api.DispatchRound)) api.DispatchRound {
	r := two()
	change(&r)
	return r
}

// copied returns a round that shares no memory with another one.
func copied(r api.DispatchRound) api.DispatchRound {
	r.Cars, r.Orders, r.Wait, r.Forbidden = slices.Clone(r.Cars), slices.Clone(r.Orders), slices.Clone(r.Wait), slices.Clone(r.Forbidden)
	for i := range r.Wait {
		r.Wait[i] = slices.Clone(r.Wait[i])
	}
	return r
}

// anyRound returns a random right round with at most so many cars and orders, often one in which not all orders can be served.
func anyRound(r *rand.Rand, most int) api.DispatchRound {
	var x api.DispatchRound
	seats, priorities, longest := 1+r.Intn(8), 1+r.Intn(7), []int{1, 5, 400, api.MaxDispatchWait}[r.Intn(4)]
	for i := range r.Intn(most + 1) {
		x.Cars = append(x.Cars, api.DispatchCar{Name: fmt.Sprint("n", i), Seats: 1 + r.Intn(8), Chair: r.Intn(2) == 0})
	}
	for i := range r.Intn(most + 1) {
		order := api.DispatchOrder{Name: fmt.Sprint("n", i), Seats: 1 + r.Intn(seats), Chair: r.Intn(4) == 0, Priority: r.Intn(priorities)}
		x.Orders = append(x.Orders, order)
		row := make([]int, len(x.Cars))
		for j := range row {
			row[j] = r.Intn(longest + 1)
		}
		x.Wait = append(x.Wait, row)
	}
	often := r.Intn(4)
	for _, pair := range allPairs(x) {
		if r.Intn(5) < often {
			x.Forbidden = append(x.Forbidden, pair)
		}
	}
	r.Shuffle(len(x.Forbidden), func(i, j int) { x.Forbidden[i], x.Forbidden[j] = x.Forbidden[j], x.Forbidden[i] })
	return x
}

// isFit is the definition of a car that is fit.
func isFit(r api.DispatchRound, order, car int) bool {
	needs, has := r.Orders[order], r.Cars[car]
	if needs.Chair && !has.Chair {
		return false
	}
	for _, pair := range r.Forbidden {
		if pair[0] == order && pair[1] == car {
			return false
		}
	}
	return needs.Seats <= has.Seats
}

// eachPlan hands all plans of a round over, one by one, in the same memory.
func eachPlan(r api.DispatchRound, do func(plan []int)) {
	plan := make([]int, len(r.Orders))
	used := make([]bool, len(r.Cars))
	var goOn func(order int)
	goOn = func(order int) {
		if order == len(plan) {
			do(plan)
			return
		}
		plan[order] = -1
		goOn(order + 1)
		for car := range used {
			if !used[car] && isFit(r, order, car) {
				plan[order], used[car] = car, true
				goOn(order + 1)
				used[car] = false
			}
		}
	}
	goOn(0)
}

// anyPlan returns a random plan of a round.
func anyPlan(r *rand.Rand, x api.DispatchRound) []int {
	plan := make([]int, len(x.Orders))
	free := r.Perm(len(x.Cars))
	for order := range plan {
		plan[order] = -1
		for i, car := range free {
			if isFit(x, order, car) && r.Intn(3) > 0 {
				plan[order] = car
				free = slices.Delete(free, i, i+1)
				break
			}
		}
	}
	return plan
}

// penalties is the penalties of all priorities.
var penalties = []int{1e6, 1e7, 1e8, 1e9, 1e10, 1e11, 1e12}

// slowCost is the definition of the cost of a plan.
func slowCost(r api.DispatchRound, plan []int) int {
	cost := 0
	for order, car := range plan {
		if car < 0 {
			cost += penalties[r.Orders[order].Priority]
		} else {
			cost += r.Wait[order][car]
		}
	}
	return cost
}

// slowServed is the definition of the orders that a plan serves.
func slowServed(plan []int) []int {
	var orders []int
	for order := range plan {
		if plan[order] >= 0 {
			orders = append(orders, order)
		}
	}
	return orders
}

// slowLongest is the definition of the longest wait of a plan.
func slowLongest(r api.DispatchRound, plan []int) int {
	longest := 0
	for order, car := range plan {
		if car >= 0 && r.Wait[order][car] > longest {
			longest = r.Wait[order][car]
		}
	}
	return longest
}

// urgent returns how many orders of each priority or a greater one a plan serves.
func urgent(r api.DispatchRound, plan []int) [7]int {
	var counts [7]int
	for _, order := range slowServed(plan) {
		for priority := range r.Orders[order].Priority + 1 {
			counts[priority]++
		}
	}
	return counts
}

// bests is what is least, or most, of all plans of a round.
type bests struct {
	cost, served, longest int
	urgent                [7]int
}

func slowBests(r api.DispatchRound) bests {
	b := bests{cost: 1e18}
	eachPlan(r, func(plan []int) {
		b.cost = min(b.cost, slowCost(r, plan))
		served, longest := len(slowServed(plan)), slowLongest(r, plan)
		if served > b.served || served == b.served && longest < b.longest {
			b.served, b.longest = served, longest
		}
		for i, n := range urgent(r, plan) {
			b.urgent[i] = max(b.urgent[i], n)
		}
	})
	return b
}

// numbersOf returns the numbers of a set that has the number i if the bit i is set.
func numbersOf(bits int) []int {
	var set []int
	for i := range 8 {
		if bits>>i&1 == 1 {
			set = append(set, i)
		}
	}
	return set
}

// carsFor is the definition of the cars that are fit for at least one order of a set.
func carsFor(r api.DispatchRound, orders []int) []int {
	var cars []int
	for car := range r.Cars {
		for _, order := range orders {
			if isFit(r, order, car) {
				cars = append(cars, car)
				break
			}
		}
	}
	return cars
}
