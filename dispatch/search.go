package dispatch

import (
	"math"
	"slices"
)

// none stands where there is no order, or no choice.
const none = -1

// A search has a plan of least cost for the first orders of a round, and prices that prove it. An order chooses a car, or nobody: nobody is a choice of each order's own, with a number behind those of the cars, whose price stays 0.
type search struct {
	checked
	choices []int // of the orders
	takers  []int // of each choice the order that has it
	worth   []int // the prices of the orders
	prices  []int // the prices of the choices
}

func newSearch(c checked) *search {
	orders := len(c.Orders)
	choices := len(c.Cars) + orders
	return &search{
		checked: c,
		choices: slices.Repeat([]int{none}, orders),
		takers:  slices.Repeat([]int{none}, choices),
		worth:   make([]int, orders),
		prices:  make([]int, choices),
	}
}

// take gives one more order a choice, on a way on which orders that have choices take others that are as good for them.
func (s *search) take(order int) {
	f := s.find(order)
	for f.end == none {
		s.raise(f)
		f = s.find(order)
	}
	for choice := f.end; choice != none; {
		taker := f.from[choice]
		s.takers[choice] = taker
		choice, s.choices[taker] = s.choices[taker], choice
	}
}

// A found is what was reached in the search for a way: orders, and choices, for each of these the order that may take it.
type found struct {
	orders []int
	from   []int
	end    int // a choice that no order has
}

// find searches for a way from an order to a choice that no order has; each order goes on to choices that cost no more than it is worth.
func (s *search) find(order int) found {
	f := found{orders: []int{order}, from: slices.Repeat([]int{none}, len(s.takers)), end: none}
search:
	for i := 0; i < len(f.orders); i++ {
		for choice, taker := range s.takers {
			if f.from[choice] != none || s.slack(f.orders[i], choice) > 0 {
				continue
			}
			f.from[choice] = f.orders[i]
			if taker == none {
				f.end = choice
				break search
			}
			f.orders = append(f.orders, taker)
		}
	}
	return f
}

// raise raises the prices of all that was reached, so much that one choice more will be.
func (s *search) raise(f found) {
	least := math.MaxInt
	for _, order := range f.orders {
		for choice, from := range f.from {
			if from == none {
				least = min(least, s.slack(order, choice))
			}
		}
	}
	for _, order := range f.orders {
		s.worth[order] += least
	}
	for choice, from := range f.from {
		if from != none {
			s.prices[choice] += least
		}
	}
}

// slack returns how much more than an order is worth a choice costs it: what is not fit, more than all others.
func (s *search) slack(order, choice int) int {
	cars := len(s.Cars)
	switch {
	case choice == cars+order:
		return penaltyOf(s.Orders[order].Priority) - s.worth[order]
	case choice < cars && s.fit[order][choice]:
		return s.Wait[order][choice] + s.prices[choice] - s.worth[order]
	}
	return math.MaxInt
}
