package share

import (
	"iter"
	"slices"

	"fiacre/api"
	"fiacre/check"
)

// Without returns the plan without a rider.
func Without(m api.ShareMap, p api.SharePlan, rider int) (api.SharePlan, api.Errno) {
	return comesTo(m, p, func(t tour) (api.SharePlan, api.Errno) {
		if e := errorOfNumber(rider, len(t.Riders)); e != api.OK {
			return api.SharePlan{}, e
		}
		if t.Riders[rider].Aboard {
			return api.SharePlan{}, api.ErrState
		}
		return without(t.SharePlan, rider), api.OK
	})
}

func without(p api.SharePlan, rider int) api.SharePlan {
	left := api.SharePlan{Car: p.Car, Riders: slices.Concat(p.Riders[:rider], p.Riders[rider+1:])}
	for _, stop := range p.Stops {
		if stop.Rider == rider {
			continue
		}
		if stop.Rider > rider {
			stop.Rider--
		}
		left.Stops = append(left.Stops, stop)
	}
	return left
}

// Inserted returns the plan with a rider more.
func Inserted(m api.ShareMap, p api.SharePlan, x api.ShareInsert) (api.SharePlan, api.Errno) {
	return comesTo(m, p, func(t tour) (api.SharePlan, api.Errno) {
		if e := errorOfNew(m, p, x.Rider); e != api.OK {
			return api.SharePlan{}, e
		}
		stops := len(t.Stops)
		if !check.Within(x.In, 0, stops) || !check.Within(x.Out, x.In+1, stops+1) {
			return api.SharePlan{}, api.ErrRange
		}
		return inserted(t.SharePlan, x), api.OK
	})
}

// errorOfNew returns the error of a rider who is not yet one of a plan.
func errorOfNew(m api.ShareMap, p api.SharePlan, r api.ShareRider) api.Errno {
	riders := len(p.Riders)
	if riders == api.MaxShareRiders {
		return api.ErrFull
	}
	if e := errorOfRider(m, append(slices.Clone(p.Riders), r), riders); e != api.OK {
		return e
	}
	if r.Aboard {
		return api.ErrState
	}
	return api.OK
}

// inserted returns the plan with a rider more, in memory of its own.
func inserted(p api.SharePlan, x api.ShareInsert) api.SharePlan {
	rider := len(p.Riders)
	p.Riders = append(slices.Clone(p.Riders), x.Rider)
	p.Stops = slices.Insert(slices.Clone(p.Stops), x.In, getsIn(rider))
	p.Stops = slices.Insert(p.Stops, x.Out, getsOut(rider))
	return p
}

// Inserts returns all offers for a rider.
func Inserts(m api.ShareMap, p api.SharePlan, r api.ShareRider) ([]api.ShareOffer, api.Errno) {
	return comesTo(m, p, func(t tour) ([]api.ShareOffer, api.Errno) {
		if e := errorOfNew(m, p, r); e != api.OK {
			return nil, e
		}
		return slices.Collect(t.offers(r)), api.OK
	})
}

// offers yields all offers for a rider, in their order.
func (t tour) offers(r api.ShareRider) iter.Seq[api.ShareOffer] {
	return func(yield func(api.ShareOffer) bool) {
		stops := len(t.Stops)
		for in := range stops + 1 {
			for out := in + 1; out <= stops+1; out++ {
				x := api.ShareInsert{Rider: r, In: in, Out: out}
				with := drive(t.ShareMap, inserted(t.SharePlan, x))
				if with.keepsLimits() && !yield(api.ShareOffer{In: in, Out: out, Cost: with.cost()}) {
					return
				}
			}
		}
	}
}

// BestInsert returns the best offer for a rider.
func BestInsert(m api.ShareMap, p api.SharePlan, r api.ShareRider) (api.ShareOffer, api.Errno) {
	return comesTo(m, p, func(t tour) (api.ShareOffer, api.Errno) {
		if e := errorOfNew(m, p, r); e != api.OK {
			return api.ShareOffer{}, e
		}
		return t.bestOffer(r)
	})
}

func (t tour) bestOffer(r api.ShareRider) (api.ShareOffer, api.Errno) {
	best, e := api.ShareOffer{}, api.ErrNone
	for offer := range t.offers(r) {
		if e == api.ErrNone || offer.Cost < best.Cost {
			best, e = offer, api.OK
		}
	}
	return best, e
}

// A bid is the best offer of a plan, and what it costs more than the plan.
type bid struct {
	plan  int
	offer api.ShareOffer
	extra int
}

// BestCar returns the plan that takes a rider at the least extra, and its best offer.
func BestCar(m api.ShareMap, l []api.SharePlan, r api.ShareRider) (int, api.ShareOffer, api.Errno) {
	if e := errorOfPlans(m, l); e != api.OK {
		return 0, api.ShareOffer{}, e
	}
	best, found := bid{}, api.ErrNone
	for i, p := range l {
		offer, e := BestInsert(m, p, r)
		if e == api.ErrNone {
			continue
		}
		if e != api.OK {
			return 0, api.ShareOffer{}, e
		}
		x := bid{plan: i, offer: offer, extra: offer.Cost - drive(m, p).cost()}
		if found == api.ErrNone || x.extra < best.extra {
			best, found = x, api.OK
		}
	}
	return best.plan, best.offer, found
}

// errorOfPlans returns the error of a map, or of the number of plans.
func errorOfPlans(m api.ShareMap, l []api.SharePlan) api.Errno {
	if e := errorOfMap(m); e != api.OK {
		return e
	}
	switch {
	case len(l) == 0:
		return api.ErrShape
	case len(l) > api.MaxShareCars:
		return api.ErrLarge
	}
	return api.OK
}
