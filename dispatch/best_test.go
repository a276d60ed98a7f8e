package dispatch_test

import (
	"fmt"
	"math/rand"
	"slices"
	"testing"

	"fiacre/api"
	"fiacre/dispatch"
)

// proves is the definition of prices that prove a bound.
func proves(r api.DispatchRound, p api.DispatchPrices) bool {
	for order, price := range p.Orders {
		if price > penalties[r.Orders[order].Priority] {
			return false
		}
		for car, extra := range p.Cars {
			if isFit(r, order, car) && price > r.Wait[order][car]+extra {
				return false
			}
		}
	}
	return true
}

func boundOf(p api.DispatchPrices) int {
	bound := 0
	for _, price := range p.Orders {
		bound += price
	}
	for _, price := range p.Cars {
		bound -= price
	}
	return bound
}

// checkBest looks at a plan of least cost, and at its proof.
func checkBest(t *testing.T, r api.DispatchRound) api.DispatchBest {
	t.Helper()
	b, e := dispatch.Best(r)
	what := fmt.Sprint(r)
	if e != api.OK || b.Cost != boundOf(b.Prices) || !proves(r, b.Prices) {
		t.Fatalf("Best of %s: %v, error %d", what, b, e)
	}
	at(t, "the plan of Best of "+what, 0, api.OK)(dispatch.CheckPlan(r, b.Plan))
	gives(t, "the cost of the plan of Best of "+what, b.Cost)(dispatch.CostOf(r, b.Plan))
	gives(t, "the bound of the prices of Best of "+what, b.Cost)(dispatch.CheckPrices(r, b.Prices))
	return b
}

// TestBest is of P5.3, P5.7 and P5.8: no plan is better, whatever is looked at.
func TestBest(t *testing.T) {
	r := rand.New(rand.NewSource(54))
	for i := range 700 {
		x := anyRound(r, []int{3, 4, 5, 6}[i%4])
		wanted := slowBests(x)
		b := checkBest(t, x)
		got := bests{cost: b.Cost, served: len(slowServed(b.Plan)), longest: wanted.longest, urgent: urgent(x, b.Plan)}
		if got != wanted {
			t.Errorf("Best of %v: %v is %v, want %v", x, b, got, wanted)
		}
		gives(t, fmt.Sprint("MostServed of ", x), wanted.served)(dispatch.MostServed(x))
		checkLongest(t, x, wanted)
	}
}

// checkLongest looks at the least longest wait, and at its plan.
func checkLongest(t *testing.T, r api.DispatchRound, wanted bests) {
	t.Helper()
	longest, plan, e := dispatch.LeastLongest(r)
	what := fmt.Sprint("LeastLongest of ", r)
	gives(t, what, wanted.longest)(longest, e)
	at(t, what, 0, api.OK)(dispatch.CheckPlan(r, plan))
	gives(t, what, wanted.served)(len(slowServed(plan)), api.OK)
	gives(t, what, wanted.longest)(slowLongest(r, plan), api.OK)
}

// TestBestOfMany is of P5.3, P5.7 and P5.8 with as many cars and orders as there can be.
func TestBestOfMany(t *testing.T) {
	r := rand.New(rand.NewSource(55))
	for range 1000 {
		checkBest(t, anyRound(r, 8))
	}
	x := full()
	wanted := slowBests(x)
	gives(t, "the cost of many", wanted.cost)(checkBest(t, x).Cost, api.OK)
	checkLongest(t, x, wanted)
	x.Wait = slices.Repeat([][]int{slices.Repeat([]int{100000}, 8)}, 8)
	gives(t, "the cost of the longest waits", 800000)(checkBest(t, x).Cost, api.OK)
	x.Forbidden = allPairs(x)
	gives(t, "the cost of nobody", 1111111000000+1000000)(checkBest(t, x).Cost, api.OK)
	gives(t, "MostServed of nobody", 0)(dispatch.MostServed(x))
}

// TestExamples is of P5.3 and P5.4, by the document's examples.
func TestExamples(t *testing.T) {
	b := checkBest(t, two())
	gives(t, "the plan", "[1 0]")(b.Plan, api.OK)
	gives(t, "the cost", 350)(b.Cost, api.OK)
	gives(t, "the prices", 350)(dispatch.CheckPrices(two(), api.DispatchPrices{Orders: []int{200, 250}, Cars: []int{100, 0}}))
	gives(t, "LeastLongest", "{200 [1 0]}")(leastLongest(two()))

	alone := first(dispatch.Withdrawn(two(), 1))
	gives(t, "the plan with one car", "[0 -1]")(checkBest(t, alone).Plan, api.OK)
	gives(t, "the cost with one car", 1000100)(checkBest(t, alone).Cost, api.OK)
	gives(t, "MostServed with one car", 1)(dispatch.MostServed(alone))
	gives(t, "Hall with one car", "[0 1]")(dispatch.Hall(alone))
	alone.Orders[1].Priority = 1
	gives(t, "the plan for the urgent one", "[-1 0]")(checkBest(t, alone).Plan, api.OK)
	gives(t, "the cost for the urgent one", 1000150)(checkBest(t, alone).Cost, api.OK)

	needy := two()
	needy.Orders[0].Chair = true
	gives(t, "the cost without wheelchairs", 1000150)(checkBest(t, needy).Cost, api.OK)
	gives(t, "Hall without wheelchairs", "[0]")(dispatch.Hall(needy))
	needy.Cars[1].Chair = true
	gives(t, "the plan with a wheelchair", "[1 0]")(checkBest(t, needy).Plan, api.OK)
	fails(t, "Hall with a wheelchair", api.ErrNone)(dispatch.Hall(needy))
}

// TestUrgentAhead is of P5.3 and P5.8: an urgent order is served, even if all others then are not or wait long.
func TestUrgentAhead(t *testing.T) {
	r := two()
	r.Cars = r.Cars[:1]
	r.Orders[1].Priority = 6
	r.Wait = [][]int{{0}, {100000}}
	gives(t, "the plan", "[-1 0]")(checkBest(t, r).Plan, api.OK)
	gives(t, "the cost", 1100000)(checkBest(t, r).Cost, api.OK)
	r.Forbidden = [][2]int{{1, 0}}
	gives(t, "the plan if it cannot be", "[0 -1]")(checkBest(t, r).Plan, api.OK)
	gives(t, "the cost if it cannot be", 1000000000000)(checkBest(t, r).Cost, api.OK)
}

// TestLeastLongest is of P5.3: the least longest wait may cost more, but serves as many orders.
func TestLeastLongest(t *testing.T) {
	r := two()
	r.Wait = [][]int{{0, 300}, {300, 500}}
	gives(t, "Best", "[0 1]")(checkBest(t, first(dispatch.Fair(r, []int{0, 0}, 0))).Plan, api.OK)
	gives(t, "LeastLongest", "{300 [1 0]}")(leastLongest(r))
	r.Forbidden = [][2]int{{1, 0}}
	gives(t, "LeastLongest of what can be", "{500 [0 1]}")(leastLongest(r))
	r.Forbidden = [][2]int{{1, 0}, {1, 1}}
	gives(t, "LeastLongest of one", "{0 [0 -1]}")(leastLongest(r))
	r.Forbidden = allPairs(r)
	gives(t, "LeastLongest of nobody", "{0 [-1 -1]}")(leastLongest(r))
}

// TestCheckPrices is of P5.3: the errors of prices, and what just proves something.
func TestCheckPrices(t *testing.T) {
	most := 100000000000000
	for _, x := range []struct {
		orders, cars []int
		bound        int
		e            api.Errno
	}{
		{[]int{200, 250}, []int{100, 0}, 350, api.OK},
		{[]int{0, 0}, []int{0, 0}, 0, api.OK},
		{[]int{-most, -most}, []int{most, most}, -4 * most, api.OK},
		{[]int{1000000, 1000000}, []int{most, most}, 2000000 - 2*most, api.OK},
		{[]int{100, 150}, []int{0, 0}, 250, api.OK},
		{[]int{101, 150}, []int{0, 0}, 0, api.ErrProof},
		{[]int{100, 151}, []int{0, 0}, 0, api.ErrProof},
		{[]int{201, 250}, []int{100, 0}, 0, api.ErrProof},
		{[]int{200, 250}, []int{99, 0}, 0, api.ErrProof},
		{[]int{1000001, 1000000}, []int{most, most}, 0, api.ErrProof},
		{[]int{1000000, 1000001}, []int{most, most}, 0, api.ErrProof},
		{nil, nil, 0, api.ErrShape},
		{[]int{200}, []int{100, 0}, 0, api.ErrShape},
		{[]int{200, 250, 0}, []int{100, 0}, 0, api.ErrShape},
		{[]int{200, 250}, []int{100}, 0, api.ErrShape},
		{[]int{200, 250}, []int{100, 0, 0}, 0, api.ErrShape},
		{[]int{most + 1, 250}, []int{-1}, 0, api.ErrShape},
		{[]int{200, most + 1}, []int{100, 0}, 0, api.ErrRange},
		{[]int{most, most}, []int{100, 0}, 0, api.ErrProof},
		{[]int{200, -most - 1}, []int{100, 0}, 0, api.ErrRange},
		{[]int{200, 250}, []int{100, -1}, 0, api.ErrRange},
		{[]int{200, 250}, []int{100, most + 1}, 0, api.ErrRange},
		{[]int{most, 250}, []int{100, -1}, 0, api.ErrRange},
	} {
		p := api.DispatchPrices{Orders: x.orders, Cars: x.cars}
		what := fmt.Sprint("CheckPrices ", p)
		if x.e == api.OK {
			gives(t, what, x.bound)(dispatch.CheckPrices(two(), p))
		} else {
			fails(t, what, x.e)(dispatch.CheckPrices(two(), p))
		}
		fails(t, what+" in a wrong round", api.ErrName)(dispatch.CheckPrices(nameless(), p))
	}
	gives(t, "CheckPrices of nothing", 0)(dispatch.CheckPrices(api.DispatchRound{}, api.DispatchPrices{}))
	gives(t, "CheckPrices of a wait that nobody looks at", 1000150)(dispatch.CheckPrices(
		with(func(r *api.DispatchRound) { r.Orders[0].Chair = true }), api.DispatchPrices{Orders: []int{1000000, 150}, Cars: []int{0, 0}}))
}

// TestAnyPrices is of P5.3 and P5.7: prices are accepted just if they prove their bound, and no plan costs less than this.
func TestAnyPrices(t *testing.T) {
	r := rand.New(rand.NewSource(56))
	for range 600 {
		x := anyRound(r, 5)
		p := first(dispatch.Best(x)).Prices
		for range r.Intn(3) {
			by := []int{-1, 1, 40}[r.Intn(3)]
			if i := r.Intn(len(p.Orders) + len(p.Cars) + 1); i < len(p.Orders) {
				p.Orders[i] += by
			} else if i -= len(p.Orders); i < len(p.Cars) {
				p.Cars[i] = max(0, p.Cars[i]+by)
			}
		}
		what := fmt.Sprint("CheckPrices ", x, p)
		if !proves(x, p) {
			fails(t, what, api.ErrProof)(dispatch.CheckPrices(x, p))
			continue
		}
		bound := boundOf(p)
		gives(t, what, bound)(dispatch.CheckPrices(x, p))
		if least := slowBests(x).cost; least < bound {
			t.Errorf("%s: a plan costs %d", what, least)
		}
	}
}

// TestBestErrors is of P5.3: errors of the round.
func TestBestErrors(t *testing.T) {
	fails(t, "Best", api.ErrName)(dispatch.Best(nameless()))
	fails(t, "MostServed", api.ErrName)(dispatch.MostServed(nameless()))
	fails(t, "LeastLongest", api.ErrName)(leastLongest(nameless()))
}
