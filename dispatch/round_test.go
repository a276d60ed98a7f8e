package dispatch_test

import (
	"fmt"
	"math"
	"math/rand"
	"slices"
	"testing"

	"fiacre/api"
	"fiacre/dispatch"
)

// TestCheckRound is of P5.1: the errors of a round, where they are, and which comes first.
func TestCheckRound(t *testing.T) {
	type round = *api.DispatchRound
	for _, x := range []struct {
		what   string
		change func(r round)
		number int
		e      api.Errno
	}{
		{"the example", func(r round) {}, 0, api.OK},
		{"the same names for cars and orders", func(r round) { r.Orders[0].Name, r.Orders[1].Name = "b", "a" }, 0, api.OK},
		{"as much as can be", func(r round) { *r = full(); r.Forbidden = allPairs(*r) }, 0, api.OK},
		{"the least numbers", func(r round) { r.Cars[0].Seats, r.Wait[0][0] = 1, 0 }, 0, api.OK},
		{"the greatest numbers", func(r round) {
			r.Cars[1].Seats, r.Orders[1].Seats, r.Orders[1].Priority, r.Wait[1][1] = 8, 8, 6, 100000
		}, 0, api.OK},
		{"nothing", func(r round) { *r = api.DispatchRound{} }, 0, api.OK},
		{"no orders", func(r round) { r.Orders, r.Wait = nil, nil }, 0, api.OK},
		{"no cars", func(r round) { r.Cars, r.Wait = nil, [][]int{nil, {}} }, 0, api.OK},
		{"capital letters differ", func(r round) { r.Cars[1].Name, r.Orders[1].Name = "A", "P" }, 0, api.OK},

		{"nine cars", func(r round) { r.Cars = slices.Repeat([]api.DispatchCar{{}}, 9) }, 0, api.ErrLarge},
		{"a car without a name", func(r round) { r.Cars[1].Name = "" }, 1, api.ErrName},
		{"a car with a long name", func(r round) { r.Cars[0].Name = "abcdefghijklm" }, 0, api.ErrName},
		{"two cars of a name", func(r round) { r.Cars[1].Name = "a" }, 1, api.ErrExists},
		{"a car without seats", func(r round) { r.Cars[1].Seats = 0 }, 1, api.ErrRange},
		{"a car with nine seats", func(r round) { r.Cars[1].Seats = 9 }, 1, api.ErrRange},
		{"names of cars ahead of seats", func(r round) { r.Cars[1] = api.DispatchCar{Name: "a"} }, 1, api.ErrExists},
		{"car by car", func(r round) { r.Cars[0].Seats, r.Cars[1].Name = 0, "" }, 0, api.ErrRange},
		{"cars ahead of orders", func(r round) { r.Cars[1].Seats, r.Orders = 0, make([]api.DispatchOrder, 9) }, 1, api.ErrRange},

		{"nine orders", func(r round) { r.Orders = slices.Repeat([]api.DispatchOrder{{}}, 9) }, 0, api.ErrLarge},
		{"an order without a name", func(r round) { r.Orders[1].Name = "" }, 1, api.ErrName},
		{"two orders of a name", func(r round) { r.Orders[1].Name = "p" }, 1, api.ErrExists},
		{"an order of no seats", func(r round) { r.Orders[1].Seats = 0 }, 1, api.ErrRange},
		{"an order of nine seats", func(r round) { r.Orders[1].Seats = 9 }, 1, api.ErrRange},
		{"a priority below 0", func(r round) { r.Orders[1].Priority = -1 }, 1, api.ErrRange},
		{"the priority 7", func(r round) { r.Orders[1].Priority = 7 }, 1, api.ErrRange},
		{"names of orders ahead of numbers", func(r round) { r.Orders[1] = api.DispatchOrder{Name: "-"} }, 1, api.ErrName},
		{"order by order", func(r round) { r.Orders[0].Priority, r.Orders[1].Name = 7, "" }, 0, api.ErrRange},
		{"orders ahead of waits", func(r round) { r.Orders[1].Seats, r.Wait = 0, nil }, 1, api.ErrRange},

		{"a row too few", func(r round) { r.Wait = r.Wait[:1] }, 0, api.ErrShape},
		{"a row too many", func(r round) { r.Wait = append(r.Wait, []int{1, 2}) }, 0, api.ErrShape},
		{"rows ahead of their numbers", func(r round) { r.Wait = [][]int{{-1}} }, 0, api.ErrShape},
		{"a number too few", func(r round) { r.Wait[1] = r.Wait[1][:1] }, 1, api.ErrShape},
		{"a number too many", func(r round) { r.Wait[1] = append(r.Wait[1], 0) }, 1, api.ErrShape},
		{"a wait below 0", func(r round) { r.Wait[1][1] = -1 }, 1, api.ErrRange},
		{"a wait too long", func(r round) { r.Wait[1][0] = 100001 }, 1, api.ErrRange},
		{"a wait too long of what is not fit", func(r round) { r.Wait[1][0], r.Orders[1].Seats = 100001, 8 }, 1, api.ErrRange},
		{"the shape of a row ahead of its numbers", func(r round) { r.Wait[1] = []int{-1} }, 1, api.ErrShape},
		{"row by row", func(r round) { r.Wait[0][0], r.Wait[1] = -1, nil }, 0, api.ErrRange},
		{"waits ahead of pairs", func(r round) { r.Wait[1][0], r.Forbidden = -1, make([][2]int, 65) }, 1, api.ErrRange},

		{"65 pairs", func(r round) { *r = full(); r.Forbidden = append(allPairs(*r), [2]int{}) }, 0, api.ErrLarge},
		{"65 pairs of nothing", func(r round) { r.Forbidden = slices.Repeat([][2]int{{9, 9}}, 65) }, 0, api.ErrLarge},
		{"64 pairs of nothing", func(r round) { r.Forbidden = slices.Repeat([][2]int{{9, 9}}, 64) }, 0, api.ErrMissing},
		{"a pair of no order", func(r round) { r.Forbidden = [][2]int{{0, 0}, {2, 0}} }, 1, api.ErrMissing},
		{"a pair of no car", func(r round) { r.Forbidden = [][2]int{{0, 0}, {0, 2}} }, 1, api.ErrMissing},
		{"a pair of an order below 0", func(r round) { r.Forbidden = [][2]int{{-1, 0}} }, 0, api.ErrMissing},
		{"a pair of nobody", func(r round) { r.Forbidden = [][2]int{{0, 0}, {0, 1}, {1, -1}} }, 2, api.ErrMissing},
		{"a pair twice", func(r round) { r.Forbidden = [][2]int{{0, 1}, {1, 0}, {0, 1}} }, 2, api.ErrDouble},
		{"pair by pair", func(r round) { r.Forbidden = [][2]int{{0, 1}, {0, 1}, {9, 9}} }, 1, api.ErrDouble},
	} {
		at(t, x.what, x.number, x.e)(dispatch.CheckRound(with(x.change)))
	}
}

// TestFit is of P5.1: which cars are fit.
func TestFit(t *testing.T) {
	r := rand.New(rand.NewSource(51))
	for range 400 {
		x := anyRound(r, 8)
		for order := range x.Orders {
			var fits []int
			for car := range x.Cars {
				fit := isFit(x, order, car)
				gives(t, fmt.Sprint("IsFit of ", x, order, car), fit)(dispatch.IsFit(x, order, car))
				if fit {
					fits = append(fits, car)
				}
			}
			gives(t, fmt.Sprint("Fits of ", x, order), fits)(dispatch.Fits(x, order))
		}
	}
	x := two()
	x.Cars[0].Seats, x.Orders[0].Seats = 3, 4
	gives(t, "Fits with a seat too few", "[1]")(dispatch.Fits(x, 0))
	x.Cars[0].Seats = 4
	gives(t, "Fits with just the seats", "[0 1]")(dispatch.Fits(x, 0))
	x.Cars[1].Chair = true
	gives(t, "Fits without a wheelchair", "[0 1]")(dispatch.Fits(x, 1))
	x.Orders[1].Chair = true
	gives(t, "Fits with a wheelchair", "[1]")(dispatch.Fits(x, 1))
	x.Forbidden = [][2]int{{1, 1}}
	gives(t, "Fits of what is forbidden", "[]")(dispatch.Fits(x, 1))
	gives(t, "Fits of the other one", "[0 1]")(dispatch.Fits(x, 0))
}

// TestFitErrors is of P5.1: errors of the round, the order, the car.
func TestFitErrors(t *testing.T) {
	for _, number := range []int{-1, 2, math.MinInt, math.MaxInt} {
		fails(t, "IsFit of no order", api.ErrMissing)(dispatch.IsFit(two(), number, 0))
		fails(t, "IsFit of no car", api.ErrMissing)(dispatch.IsFit(two(), 0, number))
		fails(t, "Fits of no order", api.ErrMissing)(dispatch.Fits(two(), number))
		fails(t, "IsFit in a wrong round", api.ErrName)(dispatch.IsFit(nameless(), number, number))
		fails(t, "Fits in a wrong round", api.ErrName)(dispatch.Fits(nameless(), number))
	}
}

// TestPenaltyOf is of P5.1.
func TestPenaltyOf(t *testing.T) {
	for priority, penalty := range penalties {
		gives(t, "PenaltyOf", penalty)(dispatch.PenaltyOf(priority))
	}
	for _, priority := range []int{-1, 7, math.MinInt, math.MaxInt} {
		fails(t, "PenaltyOf of no priority", api.ErrRange)(dispatch.PenaltyOf(priority))
	}
}
