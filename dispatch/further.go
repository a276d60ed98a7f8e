package dispatch

import (
	"slices"

	"fiacre/api"
	"fiacre/check"
)

// Declined returns the round in which one pair more is forbidden.
func Declined(r api.DispatchRound, order, car int) (api.DispatchRound, api.Errno) {
	if e := check.First(errorOfRound(r), errorOfOrder(r, order), errorOfCar(r, car)); e != api.OK {
		return api.DispatchRound{}, e
	}
	pair := [2]int{order, car}
	switch {
	case slices.Contains(r.Forbidden, pair):
		return api.DispatchRound{}, api.ErrDouble
	// As many pairs are all pairs that the limits of cars and orders allow, so that ErrDouble is ahead of this.
	case len(r.Forbidden) == maxForbidden:
		return api.DispatchRound{}, api.ErrFull
	}
	next := without(r, nil, nil)
	next.Forbidden = append(next.Forbidden, pair)
	return next, api.OK
}

// Cancelled returns the round without an order.
func Cancelled(r api.DispatchRound, order int) (api.DispatchRound, api.Errno) {
	if e := check.First(errorOfRound(r), errorOfOrder(r, order)); e != api.OK {
		return api.DispatchRound{}, e
	}
	return without(r, []int{order}, nil), api.OK
}

// Withdrawn returns the round without a car.
func Withdrawn(r api.DispatchRound, car int) (api.DispatchRound, api.Errno) {
	if e := check.First(errorOfRound(r), errorOfCar(r, car)); e != api.OK {
		return api.DispatchRound{}, e
	}
	return without(r, nil, []int{car}), api.OK
}

// Rolled returns the round without the orders that a plan serves, and without their cars.
func Rolled(r api.DispatchRound, plan []int) (api.DispatchRound, api.Errno) {
	if _, e := planned(r, plan); e != api.OK {
		return api.DispatchRound{}, e
	}
	return without(r, served(plan), plan), api.OK
}

// Fair returns the round in which the waits for a car are longer by its trips.
func Fair(r api.DispatchRound, trips []int, by int) (api.DispatchRound, api.Errno) {
	if e := check.First(errorOfRound(r), errorOfTrips(r, trips, by)); e != api.OK {
		return api.DispatchRound{}, e
	}
	fair := without(r, nil, nil)
	for _, row := range fair.Wait {
		for car := range row {
			row[car] += by * trips[car]
			if !isWait(row[car]) {
				return api.DispatchRound{}, api.ErrLarge
			}
		}
	}
	return fair, api.OK
}

func errorOfTrips(r api.DispatchRound, trips []int, by int) api.Errno {
	if len(trips) != len(r.Cars) {
		return api.ErrShape
	}
	if !isWait(by) || slices.ContainsFunc(trips, func(n int) bool { return !check.Within(n, 0, api.MaxDispatchTrips) }) {
		return api.ErrRange
	}
	return api.OK
}

// without returns a round without some orders and some cars, in memory of its own.
func without(r api.DispatchRound, orders, cars []int) api.DispatchRound {
	orders, cars = others(len(r.Orders), orders), others(len(r.Cars), cars)
	left := api.DispatchRound{Cars: picked(r.Cars, cars), Orders: picked(r.Orders, orders), Wait: picked(r.Wait, orders)}
	for i, row := range left.Wait {
		left.Wait[i] = picked(row, cars)
	}
	for _, pair := range r.Forbidden {
		order, car := slices.Index(orders, pair[0]), slices.Index(cars, pair[1])
		if order >= 0 && car >= 0 {
			left.Forbidden = append(left.Forbidden, [2]int{order, car})
		}
	}
	return left
}

// others returns the numbers from 0 to n-1 that are not in a list.
func others(n int, list []int) []int {
	var left []int
	for i := range n {
		if !slices.Contains(list, i) {
			left = append(left, i)
		}
	}
	return left
}

// picked returns the elements of a list with some numbers.
func picked[T any](list []T, numbers []int) []T {
	part := make([]T, len(numbers))
	for i, number := range numbers {
		part[i] = list[number]
	}
	return part
}

func errorOfRound(r api.DispatchRound) api.Errno {
	_, e := CheckRound(r)
	return e
}
