package dispatch

import "fiacre/api"

// Best returns a plan of least cost, and prices that prove it.
func Best(r api.DispatchRound) (api.DispatchBest, api.Errno) {
	c, e := checkedOf(r)
	if e != api.OK {
		return api.DispatchBest{}, e
	}
	return c.best(), api.OK
}

func (c checked) best() api.DispatchBest {
	s := newSearch(c)
	for order := range c.Orders {
		s.take(order)
	}
	cars := len(c.Cars)
	plan := make([]int, len(c.Orders))
	for order, choice := range s.choices {
		plan[order] = choice
		if choice >= cars {
			plan[order] = api.DispatchNobody
		}
	}
	prices := api.DispatchPrices{Orders: s.worth, Cars: s.prices[:cars:cars]}
	return api.DispatchBest{Plan: plan, Cost: c.costOf(plan), Prices: prices}
}

// MostServed returns how many orders a plan can serve at most.
func MostServed(r api.DispatchRound) (int, api.Errno) {
	c, e := checkedOf(r)
	if e != api.OK {
		return 0, e
	}
	// A penalty is more than all waiting times together, so a plan of least cost serves as many as any.
	return len(served(c.best().Plan)), api.OK
}

// LeastLongest returns the least longest wait of all plans that serve as many orders as can be, and such a plan.
func LeastLongest(r api.DispatchRound) (int, []int, api.Errno) {
	c, e := checkedOf(r)
	if e != api.OK {
		return 0, nil, e
	}
	plan := c.best().Plan
	longest := c.longest(plan)
	for longest > 0 {
		shorter := c.within(longest - 1).best().Plan
		if len(served(shorter)) < len(served(plan)) {
			break
		}
		plan, longest = shorter, c.longest(shorter)
	}
	return longest, plan, api.OK
}

// within returns the round in which only the cars for which an order waits so long at most are fit.
func (c checked) within(wait int) checked {
	fit := make([][]bool, len(c.fit))
	for order, row := range c.fit {
		fit[order] = make([]bool, len(row))
		for car, isFit := range row {
			fit[order][car] = isFit && c.Wait[order][car] <= wait
		}
	}
	c.fit = fit
	return c
}
