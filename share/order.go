package share

import (
	"slices"

	"fiacre/api"
)

// BestOrder returns the plan with its stops in the order that costs least, and its cost.
func BestOrder(m api.ShareMap, p api.SharePlan) (api.SharePlan, int, api.Errno) {
	best, e := comesTo(m, p, tour.bestOrder)
	return best.SharePlan, best.cost(), e
}

func (t tour) bestOrder() (tour, api.Errno) {
	if len(t.Riders) > api.MaxShareOrder {
		return tour{}, api.ErrLarge
	}
	best, e := tour{}, api.ErrNone
	for _, stops := range ordersOf(t.Riders, len(t.Stops)) {
		p := api.SharePlan{Car: t.Car, Riders: t.Riders, Stops: stops}
		other := drive(t.ShareMap, p)
		if other.keepsLimits() && (e == api.ErrNone || other.cost() < best.cost()) {
			best, e = other, api.OK
		}
	}
	best.Riders = slices.Clone(best.Riders)
	return best, e
}

// ordersOf returns all right orders of so many stops of riders; those that come before others stand ahead of them.
func ordersOf(riders []api.ShareRider, stops int) [][]api.ShareStop {
	orders := [][]api.ShareStop{nil}
	for range stops {
		var longer [][]api.ShareStop
		for _, order := range orders {
			for rider := range riders {
				for _, next := range []api.ShareStop{getsIn(rider), getsOut(rider)} {
					if errorOfStop(riders, order, next) == api.OK {
						longer = append(longer, slices.Concat(order, []api.ShareStop{next}))
					}
				}
			}
		}
		orders = longer
	}
	return orders
}
