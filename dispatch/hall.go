package dispatch

import "fiacre/api"

// CheckHall returns the cars that are fit for a set of orders that is too much.
func CheckHall(r api.DispatchRound, orders []int) ([]int, api.Errno) {
	c, e := checkedOf(r)
	if e != api.OK {
		return nil, e
	}
	for i, order := range orders {
		switch {
		case errorOfOrder(r, order) != api.OK:
			return nil, api.ErrMissing
		case i > 0 && order <= orders[i-1]:
			return nil, api.ErrOrder
		}
	}
	if !c.isTooMuch(orders) {
		return nil, api.ErrProof
	}
	return c.carsFor(orders...), api.OK
}

// Hall returns the least set of orders that is too much.
func Hall(r api.DispatchRound) ([]int, api.Errno) {
	c, e := checkedOf(r)
	if e != api.OK {
		return nil, e
	}
	for _, set := range setsOf(len(r.Orders)) {
		if c.isTooMuch(set) {
			return set, api.OK
		}
	}
	return nil, api.ErrNone
}

func (c checked) isTooMuch(orders []int) bool { return len(c.carsFor(orders...)) < len(orders) }

// setsOf returns all sets of the numbers from 0 to n-1, the smaller ones first, those of the same size lexicographically.
func setsOf(n int) [][]int {
	sets := [][]int{nil}
	for i := 0; i < len(sets); i++ {
		set := sets[i]
		size := len(set)
		next := 0
		if size > 0 {
			next = set[size-1] + 1
		}
		for ; next < n; next++ {
			// Without room behind it, each set that goes on from this one gets memory of its own.
			sets = append(sets, append(set[:size:size], next))
		}
	}
	return sets
}
