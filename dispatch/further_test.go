package dispatch_test

import (
	"fmt"
	"math"
	"math/rand"
	"slices"
	"testing"

	"fiacre/api"
	"fiacre/dispatch"
)

// slowWithout is the definition of a round without some orders and cars: these are deleted one by one, the last ones first.
func slowWithout(r api.DispatchRound, orders, cars []int) api.DispatchRound {
	r = copied(r)
	for _, order := range slices.Backward(orders) {
		r.Orders, r.Wait = slices.Delete(r.Orders, order, order+1), slices.Delete(r.Wait, order, order+1)
		r.Forbidden = slowPairs(r.Forbidden, 0, order)
	}
	for _, car := range slices.Backward(cars) {
		r.Cars = slices.Delete(r.Cars, car, car+1)
		for i := range r.Wait {
			r.Wait[i] = slices.Delete(r.Wait[i], car, car+1)
		}
		r.Forbidden = slowPairs(r.Forbidden, 1, car)
	}
	return r
}

// slowPairs returns the pairs without those of a number at a side; greater numbers are one less.
func slowPairs(pairs [][2]int, side, number int) [][2]int {
	var left [][2]int
	for _, pair := range pairs {
		if pair[side] > number {
			pair[side]--
			left = append(left, pair)
		} else if pair[side] < number {
			left = append(left, pair)
		}
	}
	return left
}

// TestWithout is of P5.5: rounds without an order, without a car, or without what a plan serves.
func TestWithout(t *testing.T) {
	r := rand.New(rand.NewSource(58))
	for range 300 {
		x := anyRound(r, 8)
		what := fmt.Sprint(x)
		for order := range x.Orders {
			gives(t, "Cancelled "+what, slowWithout(x, []int{order}, nil))(dispatch.Cancelled(x, order))
		}
		for car := range x.Cars {
			gives(t, "Withdrawn "+what, slowWithout(x, nil, []int{car}))(dispatch.Withdrawn(x, car))
		}
		plan := anyPlan(r, x)
		var cars []int
		for car := range x.Cars {
			if slices.Contains(plan, car) {
				cars = append(cars, car)
			}
		}
		gives(t, fmt.Sprint("Rolled ", what, plan), slowWithout(x, slowServed(plan), cars))(dispatch.Rolled(x, plan))
	}
	gives(t, "Rolled of all", api.DispatchRound{})(dispatch.Rolled(two(), []int{1, 0}))
	gives(t, "Rolled of nobody", two())(dispatch.Rolled(two(), []int{-1, -1}))
}

// TestDeclined is of P5.5: one forbidden pair more, behind the others.
func TestDeclined(t *testing.T) {
	r := rand.New(rand.NewSource(59))
	for range 200 {
		x := anyRound(r, 8)
		for _, pair := range allPairs(x) {
			what := fmt.Sprint("Declined ", x, pair)
			if slices.Contains(x.Forbidden, pair) {
				fails(t, what, api.ErrDouble)(dispatch.Declined(x, pair[0], pair[1]))
				continue
			}
			wanted := copied(x)
			wanted.Forbidden = append(wanted.Forbidden, pair)
			gives(t, what, wanted)(dispatch.Declined(x, pair[0], pair[1]))
		}
	}
	x := first(dispatch.Declined(two(), 0, 1))
	fails(t, "IsFit of what was declined", api.OK)(dispatch.IsFit(x, 0, 1))
	at(t, "CheckPlan of what was declined", 0, api.ErrClash)(dispatch.CheckPlan(x, []int{1, 0}))
	at(t, "CheckPlan of the other one", 0, api.OK)(dispatch.CheckPlan(x, []int{0, 1}))
	many := full()
	many.Forbidden = allPairs(many)[:63]
	gives(t, "Declined of the last pair", 64)(len(first(dispatch.Declined(many, 7, 7)).Forbidden), api.OK)
	many.Forbidden = allPairs(many)
	fails(t, "Declined of all pairs", api.ErrDouble)(dispatch.Declined(many, 7, 7))
}

// TestStaysForbidden is of P5.5: a declined pair is forbidden as long as both are there, whatever their numbers are.
func TestStaysForbidden(t *testing.T) {
	x := first(dispatch.Declined(full(), 5, 6))
	x = first(dispatch.Cancelled(x, 2))
	x = first(dispatch.Withdrawn(x, 7))
	x = first(dispatch.Withdrawn(x, 0))
	x = first(dispatch.Cancelled(x, 6))
	gives(t, "the pair", "[[4 5]]")(x.Forbidden, api.OK)
	gives(t, "its order", "o5")(x.Orders[4].Name, api.OK)
	gives(t, "its car", "c6")(x.Cars[5].Name, api.OK)
	gives(t, "its wait", full().Wait[5][6])(x.Wait[4][5], api.OK)
	gives(t, "the pairs without its order", "[]")(first(dispatch.Cancelled(x, 4)).Forbidden, api.OK)
	gives(t, "the pairs without its car", "[]")(first(dispatch.Withdrawn(x, 5)).Forbidden, api.OK)
}

// TestFurtherErrors is of P5.5: the errors of the round, and those of the order and the car.
func TestFurtherErrors(t *testing.T) {
	for _, number := range []int{-1, 2, math.MinInt, math.MaxInt} {
		fails(t, "Declined of no order", api.ErrMissing)(dispatch.Declined(two(), number, 0))
		fails(t, "Declined of no car", api.ErrMissing)(dispatch.Declined(two(), 0, number))
		fails(t, "Cancelled", api.ErrMissing)(dispatch.Cancelled(two(), number))
		fails(t, "Withdrawn", api.ErrMissing)(dispatch.Withdrawn(two(), number))
		fails(t, "Declined in a wrong round", api.ErrName)(dispatch.Declined(nameless(), number, number))
		fails(t, "Cancelled in a wrong round", api.ErrName)(dispatch.Cancelled(nameless(), number))
		fails(t, "Withdrawn in a wrong round", api.ErrName)(dispatch.Withdrawn(nameless(), number))
	}
	many := full()
	many.Forbidden = allPairs(many)
	fails(t, "Declined of no order with all pairs", api.ErrMissing)(dispatch.Declined(many, 8, 0))
}

// TestFair is of P5.5: waits are longer by the trips of the cars.
func TestFair(t *testing.T) {
	gives(t, "Fair", "[[160 200] [210 400]]")(first(dispatch.Fair(two(), []int{2, 0}, 30)).Wait, api.OK)
	r := rand.New(rand.NewSource(60))
	for range 500 {
		x := anyRound(r, 8)
		by := []int{0, 1, 40, 10000, 100000}[r.Intn(5)]
		trips := make([]int, len(x.Cars))
		for car := range trips {
			trips[car] = []int{0, 1, 2, r.Intn(1001)}[r.Intn(4)]
		}
		wanted, large := copied(x), false
		for _, pair := range allPairs(x) {
			wanted.Wait[pair[0]][pair[1]] += by * trips[pair[1]]
			large = large || wanted.Wait[pair[0]][pair[1]] > 100000
		}
		what := fmt.Sprint("Fair ", x, trips, by)
		if large {
			fails(t, what, api.ErrLarge)(dispatch.Fair(x, trips, by))
		} else {
			gives(t, what, wanted)(dispatch.Fair(x, trips, by))
		}
	}
}

// TestFairErrors is of P5.5: which error comes first, and the limits.
func TestFairErrors(t *testing.T) {
	orderless := with(func(r *api.DispatchRound) { r.Orders, r.Wait = nil, nil })
	gives(t, "Fair of no orders", orderless)(dispatch.Fair(orderless, []int{1000, 1000}, 100000))
	gives(t, "Fair up to the limit", 100000)(first(dispatch.Fair(two(), []int{0, 996}, 100)).Wait[1][1], api.OK)
	apart := with(func(r *api.DispatchRound) { r.Forbidden = [][2]int{{1, 1}} })
	for _, x := range []struct {
		r     api.DispatchRound
		trips []int
		by    int
		e     api.Errno
	}{
		{nameless(), nil, -1, api.ErrName},
		{two(), nil, 0, api.ErrShape},
		{two(), []int{0}, -1, api.ErrShape},
		{two(), []int{-1, 0, 0}, 0, api.ErrShape},
		{two(), []int{0, -1}, 0, api.ErrRange},
		{two(), []int{1001, 0}, 0, api.ErrRange},
		{two(), []int{0, 0}, -1, api.ErrRange},
		{two(), []int{0, 0}, 100001, api.ErrRange},
		{two(), []int{1000, 1001}, 100000, api.ErrRange},
		{two(), []int{math.MaxInt, math.MinInt}, math.MaxInt, api.ErrRange},
		{two(), []int{0, 997}, 100, api.ErrLarge},
		{two(), []int{1000, 1000}, 100000, api.ErrLarge},
		{apart, []int{0, 997}, 100, api.ErrLarge}, // also the waits of what is not fit
		{orderless, []int{1000, 1001}, 0, api.ErrRange},
	} {
		fails(t, fmt.Sprint("Fair ", x.trips, x.by), x.e)(dispatch.Fair(x.r, x.trips, x.by))
	}
}

// TestLess is of P5.10: with less to choose from, the least cost is not less; with less to do, not greater.
func TestLess(t *testing.T) {
	r := rand.New(rand.NewSource(61))
	cost := func(x api.DispatchRound, e api.Errno) int { return first(dispatch.Best(x)).Cost + int(e) }
	for range 100 {
		x := anyRound(r, 8)
		least := cost(x, api.OK)
		for _, pair := range allPairs(x) {
			if declined, e := dispatch.Declined(x, pair[0], pair[1]); e == api.OK && cost(declined, e) < least {
				t.Errorf("%v costs less without %v", x, pair)
			}
		}
		for car := range x.Cars {
			if cost(dispatch.Withdrawn(x, car)) < least {
				t.Errorf("%v costs less without the car %d", x, car)
			}
		}
		for order := range x.Orders {
			if cost(dispatch.Cancelled(x, order)) > least {
				t.Errorf("%v costs more without the order %d", x, order)
			}
		}
	}
}
