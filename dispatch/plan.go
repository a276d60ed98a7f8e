package dispatch

import (
	"slices"

	"fiacre/api"
)

// PenaltyOf returns what it costs that an order of a priority is not served.
func PenaltyOf(priority int) (int, api.Errno) {
	if !isPriority(priority) {
		return 0, api.ErrRange
	}
	return penaltyOf(priority), api.OK
}

func penaltyOf(priority int) int {
	penalty := 1000000
	for range priority {
		penalty *= 10
	}
	return penalty
}

// CheckPlan returns the first error of a plan, and the number of the order that has it.
func CheckPlan(r api.DispatchRound, plan []int) (int, api.Errno) {
	c, e := checkedOf(r)
	if e != api.OK {
		return 0, e
	}
	return c.checkPlan(plan)
}

func (c checked) checkPlan(plan []int) (int, api.Errno) {
	if len(plan) != len(c.Orders) {
		return 0, api.ErrShape
	}
	for order, car := range plan {
		if car == api.DispatchNobody {
			continue
		}
		switch {
		case errorOfCar(c.DispatchRound, car) != api.OK:
			return order, api.ErrMissing
		case !c.fit[order][car]:
			return order, api.ErrClash
		case slices.Contains(plan[:order], car):
			return order, api.ErrDouble
		}
	}
	return 0, api.OK
}

// planned returns a round for which a plan is right, or the first error of both.
func planned(r api.DispatchRound, plan []int) (checked, api.Errno) {
	c, e := checkedOf(r)
	if e != api.OK {
		return checked{}, e
	}
	if _, e := c.checkPlan(plan); e != api.OK {
		return checked{}, e
	}
	return c, api.OK
}

// CostOf returns the cost of a plan.
func CostOf(r api.DispatchRound, plan []int) (int, api.Errno) {
	c, e := planned(r, plan)
	if e != api.OK {
		return 0, e
	}
	return c.costOf(plan), api.OK
}

func (c checked) costOf(plan []int) int {
	cost := 0
	for order, car := range plan {
		if car == api.DispatchNobody {
			cost += penaltyOf(c.Orders[order].Priority)
		} else {
			cost += c.Wait[order][car]
		}
	}
	return cost
}

// Served returns the orders that a plan serves.
func Served(r api.DispatchRound, plan []int) ([]int, api.Errno) {
	if _, e := planned(r, plan); e != api.OK {
		return nil, e
	}
	return served(plan), api.OK
}

func served(plan []int) []int {
	var orders []int
	for order, car := range plan {
		if car != api.DispatchNobody {
			orders = append(orders, order)
		}
	}
	return orders
}

// Longest returns the longest wait of a plan.
func Longest(r api.DispatchRound, plan []int) (int, api.Errno) {
	c, e := planned(r, plan)
	if e != api.OK {
		return 0, e
	}
	return c.longest(plan), api.OK
}

func (c checked) longest(plan []int) int {
	longest := 0
	for _, order := range served(plan) {
		longest = max(longest, c.Wait[order][plan[order]])
	}
	return longest
}
