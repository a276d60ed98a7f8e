package dispatch

import (
	"fiacre/api"
	"fiacre/check"
)

// CheckPrices returns the bound that prices prove.
func CheckPrices(r api.DispatchRound, p api.DispatchPrices) (int, api.Errno) {
	c, e := checkedOf(r)
	if e != api.OK {
		return 0, e
	}
	if e := errorOfPrices(r, p); e != api.OK {
		return 0, e
	}
	bound := 0
	for order, price := range p.Orders {
		if price > c.mostFor(order, p.Cars) {
			return 0, api.ErrProof
		}
		bound += price
	}
	for _, price := range p.Cars {
		bound -= price
	}
	return bound, api.OK
}

// errorOfPrices returns the error of the shape and the sizes of prices.
func errorOfPrices(r api.DispatchRound, p api.DispatchPrices) api.Errno {
	if len(p.Orders) != len(r.Orders) || len(p.Cars) != len(r.Cars) {
		return api.ErrShape
	}
	for _, price := range p.Orders {
		if !check.Within(price, -api.MaxDispatchPrice, api.MaxDispatchPrice) {
			return api.ErrRange
		}
	}
	for _, price := range p.Cars {
		if !check.Within(price, 0, api.MaxDispatchPrice) {
			return api.ErrRange
		}
	}
	return api.OK
}

// mostFor returns the greatest price that an order may have with prices of cars.
func (c checked) mostFor(order int, prices []int) int {
	most := penaltyOf(c.Orders[order].Priority)
	for _, car := range c.carsFor(order) {
		most = min(most, c.Wait[order][car]+prices[car])
	}
	return most
}
