package share_test

import (
	"fmt"
	"math"
	"math/rand"
	"slices"
	"strings"
	"testing"

	"fiacre/api"
	"fiacre/share"
)

// TestWithout is of P6.3: the others have the numbers that they then have.
func TestWithout(t *testing.T) {
	gives(t, "without bob", alone())(share.Without(three(), both(), 1))
	gives(t, "without ann", "{{0 0 2} [{bob 1 2 1 0 0 false 0}] [{0 false} {0 true}]}")(share.Without(three(), both(), 0))
	gives(t, "without anybody", "{{0 0 2} [] []}")(share.Without(three(), alone(), 0))
	r := rand.New(rand.NewSource(65))
	for range 500 {
		m := anyMap(r, 12, 10)
		p := anyPlan(r, m, 6, 10)
		for rider, x := range p.Riders {
			what := fmt.Sprint("Without ", p, rider)
			if x.Aboard {
				fails(t, what, api.ErrState)(share.Without(m, p, rider))
				continue
			}
			wanted := api.SharePlan{Car: p.Car, Riders: slices.Delete(slices.Clone(p.Riders), rider, rider+1)}
			text := strings.NewReplacer("+"+x.Name, "", "-"+x.Name, "").Replace(share.FormatStops(p))
			wanted.Stops = first(share.ParseStops(wanted.Riders, strings.Join(strings.Fields(text), " ")))
			gives(t, what, wanted)(share.Without(m, p, rider))
			at(t, what, 0, api.OK)(share.CheckPlan(m, wanted))
		}
	}
	for _, number := range []int{-1, 2, math.MinInt, math.MaxInt} {
		fails(t, "Without nobody", api.ErrMissing)(share.Without(three(), both(), number))
	}
	fails(t, "Without one aboard", api.ErrState)(share.Without(three(), riding(), 0))
}

// TestWaitsWithout is of P6.2 and P6.3: without a rider a plan may break limits that it kept.
func TestWaitsWithout(t *testing.T) {
	p := api.SharePlan{Car: api.ShareCar{Seats: 3}}
	p.Riders = []api.ShareRider{
		{Name: "a", From: 2, To: 1, Seats: 1, Detour: 20000, Ready: 800},
		{Name: "b", From: 0, To: 2, Seats: 1, Detour: 0},
		{Name: "c", From: 0, To: 2, Seats: 1, Detour: 20000, Ready: 900},
	}
	p.Stops = first(share.ParseStops(p.Riders, "+a +b +c -b -c -a"))
	fails(t, "with a", api.ErrNone)(share.FirstBroken(three(), p))
	p = first(share.Without(three(), p, 0))
	gives(t, "without a", api.ShareBroken{Kind: api.ShareDetour, Number: 0})(share.FirstBroken(three(), p))
}

// TestInserted is of P6.3: the new rider's stops are where they are told to be, and the others have their order.
func TestInserted(t *testing.T) {
	gives(t, "bob behind ann", both())(share.Inserted(three(), alone(), api.ShareInsert{Rider: bob(), In: 1, Out: 2}))
	r := rand.New(rand.NewSource(66))
	for range 300 {
		m := anyMap(r, 12, 10)
		p := anyPlan(r, m, 5, 10)
		x := anyRider(r, m, "new", 10)
		stops := len(p.Stops)
		for in := -1; in <= stops+2; in++ {
			for out := -1; out <= stops+3; out++ {
				what := fmt.Sprint("Inserted ", p, x, in, out)
				got, e := share.Inserted(m, p, api.ShareInsert{Rider: x, In: in, Out: out})
				if in < 0 || in > stops || out <= in || out > stops+1 {
					fails(t, what, api.ErrRange)(got, e)
					continue
				}
				gives(t, what, slowInserted(p, x, in, out))(got, e)
				at(t, what, 0, api.OK)(share.CheckPlan(m, got))
			}
		}
	}
	for _, number := range []int{math.MinInt, math.MaxInt} {
		fails(t, "Inserted too far", api.ErrRange)(share.Inserted(three(), alone(), api.ShareInsert{Rider: bob(), In: 0, Out: number}))
		fails(t, "Inserted from too far", api.ErrRange)(share.Inserted(three(), alone(), api.ShareInsert{Rider: bob(), In: number, Out: 1}))
		fails(t, "Inserted too far at both", api.ErrRange)(share.Inserted(three(), alone(), api.ShareInsert{Rider: bob(), In: number, Out: number}))
	}
}

// TestNewRider is of P6.3 and P6.4: the errors of a new rider, behind those of the map and the plan.
func TestNewRider(t *testing.T) {
	for _, x := range []struct {
		what   string
		change func(r *api.ShareRider)
		e      api.Errno
	}{
		{"no name", func(r *api.ShareRider) { r.Name = "b " }, api.ErrName},
		{"the name of one who is there", func(r *api.ShareRider) { r.Name = "ann" }, api.ErrExists},
		{"from nowhere", func(r *api.ShareRider) { r.From = 3 }, api.ErrMissing},
		{"to nowhere", func(r *api.ShareRider) { r.To = -1 }, api.ErrMissing},
		{"to where one is", func(r *api.ShareRider) { r.To = 1 }, api.ErrClash},
		{"no seat", func(r *api.ShareRider) { r.Seats = 0 }, api.ErrRange},
		{"nine seats", func(r *api.ShareRider) { r.Seats = 9 }, api.ErrRange},
		{"a detour too long", func(r *api.ShareRider) { r.Detour = 20001 }, api.ErrRange},
		{"ready too late", func(r *api.ShareRider) { r.Ready = 1000001 }, api.ErrRange},
		{"ridden too long", func(r *api.ShareRider) { r.Ridden, r.Aboard = 20001, true }, api.ErrRange},
		{"ridden, and not aboard", func(r *api.ShareRider) { r.Ridden = 1 }, api.ErrForm},
		{"ready, and aboard", func(r *api.ShareRider) { r.Ready, r.Aboard = 1, true }, api.ErrForm},
		{"aboard", func(r *api.ShareRider) { r.Ridden, r.Aboard = 1, true }, api.ErrState},
		{"aboard, with more seats than the car", func(r *api.ShareRider) { r.Seats, r.Aboard = 8, true }, api.ErrState},
	} {
		rider := bob()
		x.change(&rider)
		failsNew(t, x.what, x.e, alone(), rider)
		failsNew(t, x.what+", of too many", api.ErrFull, crowd(6), rider)
	}
	failsNew(t, "one too many", api.ErrFull, crowd(6), bob())
	gives(t, "the last one", 6)(len(first(share.Inserted(three(), crowd(5), api.ShareInsert{Rider: bob(), In: 10, Out: 11})).Riders), api.OK)
}

// failsNew wants the error of a new rider.
func failsNew(t *testing.T, what string, e api.Errno, p api.SharePlan, r api.ShareRider) {
	t.Helper()
	fails(t, "Inserted: "+what, e)(share.Inserted(three(), p, api.ShareInsert{Rider: r, In: -1, Out: -1}))
	fails(t, "Inserts: "+what, e)(share.Inserts(three(), p, r))
	fails(t, "BestInsert: "+what, e)(share.BestInsert(three(), p, r))
	fails(t, "BestCar: "+what, e)(bestCar(three(), []api.SharePlan{p}, r))
	fails(t, "BestCar of several: "+what, e)(bestCar(three(), []api.SharePlan{p, nameless()}, r))
}

// TestInserts is of P6.4: the document's example.
func TestInserts(t *testing.T) {
	gives(t, "the offers", "[{0 1 500} {1 2 200} {1 3 200} {2 3 350}]")(share.Inserts(three(), alone(), bob()))
	gives(t, "the best one", "{1 2 200}")(share.BestInsert(three(), alone(), bob()))
	gives(t, "the cost of the plan", 150)(share.CostOf(three(), alone()))
	gives(t, "the offers of an empty car", "[{0 1 200}]")(share.Inserts(three(), api.SharePlan{Car: api.ShareCar{Seats: 1}}, bob()))
	large := bob()
	large.Seats = 3
	gives(t, "the offers for too many", "[]")(share.Inserts(three(), alone(), large))
	fails(t, "the best one for too many", api.ErrNone)(share.BestInsert(three(), alone(), large))
	late := riding()
	late.Riders[0].Ridden = 20000
	gives(t, "the offers of a ride that is too long already", "[]")(share.Inserts(three(), late, api.ShareRider{Name: "x", From: 0, To: 1, Seats: 1}))
}

// TestOffers is of P6.4 and P6.9: all offers, the best one, and no cheaper plan.
func TestOffers(t *testing.T) {
	r := rand.New(rand.NewSource(67))
	none, several := 0, 0
	for range 1500 {
		size := scale(r)
		m := anyMap(r, 2+r.Intn(11), size)
		p := anyPlan(r, m, 5, size)
		x := anyRider(r, m, "new", size)
		what := fmt.Sprint(" of ", m, p, x)
		wanted := slowOffers(m, p, x)
		gives(t, "Inserts"+what, wanted)(share.Inserts(m, p, x))
		if len(wanted) == 0 {
			none++
			fails(t, "BestInsert"+what, api.ErrNone)(share.BestInsert(m, p, x))
			continue
		}
		best := slowBest(wanted)
		gives(t, "BestInsert"+what, best)(share.BestInsert(m, p, x))
		if len(wanted) > 1 {
			several++
		}
		for _, offer := range wanted {
			with := first(share.Inserted(m, p, api.ShareInsert{Rider: x, In: offer.In, Out: offer.Out}))
			fails(t, "limits with an offer"+what, api.ErrNone)(share.FirstBroken(m, with))
			gives(t, "the cost of an offer"+what, offer.Cost)(share.CostOf(m, with))
		}
		if with := first(share.Inserted(m, p, api.ShareInsert{Rider: x, In: best.In, Out: best.Out})); len(with.Riders) <= 4 {
			if _, cost, e := share.BestOrder(m, with); cost > best.Cost || e != api.OK {
				t.Errorf("BestOrder costs %d, error %d, more than the best offer%s", cost, e, what)
			}
		}
	}
	if none < 200 || several < 200 {
		t.Errorf("of too few plans there is no offer, %d, or are several, %d", none, several)
	}
}

// TestBestCar is of P6.4: the least extra, of several the first plan.
func TestBestCar(t *testing.T) {
	near := api.SharePlan{Car: api.ShareCar{At: 1, Seats: 1}}
	far := api.SharePlan{Car: api.ShareCar{At: 0, Seats: 1}}
	full := api.SharePlan{Car: api.ShareCar{At: 1, Seats: 1}}
	two := bob()
	two.Seats = 2
	gives(t, "the nearest one", "{1 {0 1 100}}")(bestCar(three(), []api.SharePlan{far, near}, bob()))
	gives(t, "the first one of two", "{0 {0 1 100}}")(bestCar(three(), []api.SharePlan{near, near, far}, bob()))
	gives(t, "one who passes by", "{2 {1 2 200}}")(bestCar(three(), []api.SharePlan{far, near, alone()}, bob()))
	gives(t, "the only one", "{1 {0 1 200}}")(bestCar(three(), []api.SharePlan{full, {Car: api.ShareCar{At: 0, Seats: 2}}, near}, two))
	fails(t, "no one", api.ErrNone)(bestCar(three(), []api.SharePlan{full, near}, two))
	gives(t, "eight", "{0 {0 1 100}}")(bestCar(three(), slices.Repeat([]api.SharePlan{near}, 8), bob()))

	fails(t, "no plans", api.ErrShape)(bestCar(three(), nil, api.ShareRider{}))
	fails(t, "no plans on a wrong map", api.ErrZero)(bestCar(wrong(), nil, bob()))
	fails(t, "nine plans", api.ErrLarge)(bestCar(three(), slices.Repeat([]api.SharePlan{nameless()}, 9), bob()))
	fails(t, "nine plans on a wrong map", api.ErrZero)(bestCar(wrong(), make([]api.SharePlan, 9), bob()))
	fails(t, "a wrong plan behind others", api.ErrName)(bestCar(three(), []api.SharePlan{near, alone(), nameless()}, bob()))
	fails(t, "a wrong plan behind one without offers", api.ErrName)(bestCar(three(), []api.SharePlan{near, nameless()}, two))
	bobs := with(func(p plan) { p.Riders[0].Name = "x" })
	fails(t, "plan by plan, the rider first", api.ErrExists)(bestCar(three(), []api.SharePlan{near, bobs, nameless()}, bob()))
	fails(t, "plan by plan, the plan first", api.ErrName)(bestCar(three(), []api.SharePlan{near, nameless(), bobs}, bob()))
}

// TestAnyBestCar is of P6.4 and P6.9, on random plans.
func TestAnyBestCar(t *testing.T) {
	r := rand.New(rand.NewSource(68))
	for range 400 {
		size := scale(r)
		m := anyMap(r, 5, size)
		x := anyRider(r, m, "new", size)
		var plans []api.SharePlan
		best, least := carOf{Plan: -1}, 0
		for i := range 1 + r.Intn(8) {
			p := anyPlan(r, m, 4, size)
			plans = append(plans, p)
			offers := slowOffers(m, p, x)
			if len(offers) == 0 {
				continue
			}
			offer := slowBest(offers)
			if extra := offer.Cost - slowCost(m, p); best.Plan < 0 || extra < least {
				best, least = carOf{i, offer}, extra
			}
		}
		what := fmt.Sprint("BestCar of ", m, plans, x)
		if best.Plan < 0 {
			fails(t, what, api.ErrNone)(bestCar(m, plans, x))
		} else {
			gives(t, what, best)(bestCar(m, plans, x))
		}
	}
}

// TestClosedMap is of P6.10: in a closed map a plan without a rider costs no more, and an offer no less, than the plan.
func TestClosedMap(t *testing.T) {
	r := rand.New(rand.NewSource(69))
	for range 600 {
		size := scale(r)
		m := first(share.Closed(anyMap(r, 12, size)))
		p := anyPlan(r, m, 5, size)
		cost := first(share.CostOf(m, p))
		for rider := range p.Riders {
			if left, e := share.Without(m, p, rider); e == api.OK && first(share.CostOf(m, left)) > cost {
				t.Errorf("%v without %d costs more on %v", p, rider, m)
			}
		}
		for _, offer := range first(share.Inserts(m, p, anyRider(r, m, "new", size))) {
			if offer.Cost < cost {
				t.Errorf("%v with a rider more costs less on %v: %v", p, m, offer)
			}
		}
	}
}
