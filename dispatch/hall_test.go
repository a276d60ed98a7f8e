package dispatch_test

import (
	"fmt"
	"math"
	"math/rand"
	"slices"
	"testing"

	"fiacre/api"
	"fiacre/dispatch"
)

// TestHall is of P5.4 and P5.9: which sets of orders are too much, which of them is the least, and what can be served then.
func TestHall(t *testing.T) {
	r := rand.New(rand.NewSource(57))
	for range 500 {
		x := anyRound(r, 8)
		var least []int
		excess := 0
		for bits := range 1 << len(x.Orders) {
			set := numbersOf(bits)
			cars := carsFor(x, set)
			excess = max(excess, len(set)-len(cars))
			what := fmt.Sprint("CheckHall ", x, set)
			if len(cars) >= len(set) {
				fails(t, what, api.ErrProof)(dispatch.CheckHall(x, set))
				continue
			}
			gives(t, what, cars)(dispatch.CheckHall(x, set))
			if least == nil || len(set) < len(least) || len(set) == len(least) && slices.Compare(set, least) < 0 {
				least = set
			}
		}
		gives(t, fmt.Sprint("MostServed ", x), len(x.Orders)-excess)(dispatch.MostServed(x))
		if least == nil {
			fails(t, fmt.Sprint("Hall ", x), api.ErrNone)(dispatch.Hall(x))
		} else {
			gives(t, fmt.Sprint("Hall ", x), least)(dispatch.Hall(x))
		}
	}
}

// TestLeastHall is of P5.4: the size comes ahead of the order of the numbers.
func TestLeastHall(t *testing.T) {
	r := full()
	only := map[int]int{1: 4, 2: 5, 6: 4, 7: 5} // orders that have one car each
	for order, car := range only {
		for other := range r.Cars {
			if other != car {
				r.Forbidden = append(r.Forbidden, [2]int{order, other})
			}
		}
	}
	gives(t, "Hall of pairs", "[1 6]")(dispatch.Hall(r))
	r.Forbidden = append(r.Forbidden, [2]int{7, 5})
	gives(t, "Hall of one", "[7]")(dispatch.Hall(r))
	gives(t, "CheckHall of more", "[4]")(dispatch.CheckHall(r, []int{1, 6, 7}))
	gives(t, "CheckHall of one", "[]")(dispatch.CheckHall(r, []int{7}))
}

// TestHallErrors is of P5.4.
func TestHallErrors(t *testing.T) {
	alone := first(dispatch.Withdrawn(two(), 1))
	gives(t, "CheckHall", "[0]")(dispatch.CheckHall(alone, []int{0, 1}))
	for _, x := range []struct {
		orders []int
		e      api.Errno
	}{
		{nil, api.ErrProof},
		{[]int{0}, api.ErrProof},
		{[]int{1}, api.ErrProof},
		{[]int{1, 0}, api.ErrOrder},
		{[]int{0, 0}, api.ErrOrder},
		{[]int{0, 1, 1}, api.ErrOrder},
		{[]int{2}, api.ErrMissing},
		{[]int{-1}, api.ErrMissing},
		{[]int{0, 1, 2}, api.ErrMissing},
		{[]int{1, -1}, api.ErrMissing},
		{[]int{1, 0, 2}, api.ErrOrder},
		{[]int{math.MinInt}, api.ErrMissing},
		{[]int{math.MaxInt, 0}, api.ErrMissing},
	} {
		what := fmt.Sprint("CheckHall ", x.orders)
		fails(t, what, x.e)(dispatch.CheckHall(alone, x.orders))
		fails(t, what+" in a wrong round", api.ErrName)(dispatch.CheckHall(nameless(), x.orders))
	}
	fails(t, "Hall in a wrong round", api.ErrName)(dispatch.Hall(nameless()))
	fails(t, "Hall of no orders", api.ErrNone)(dispatch.Hall(api.DispatchRound{}))
	carless := with(func(r *api.DispatchRound) { r.Cars, r.Wait = nil, make([][]int, 2) })
	gives(t, "Hall of no cars", "[0]")(dispatch.Hall(carless))
	gives(t, "CheckHall of no cars", "[]")(dispatch.CheckHall(carless, []int{0, 1}))
}
