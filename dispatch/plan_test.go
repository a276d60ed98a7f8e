package dispatch_test

import (
	"fmt"
	"math"
	"math/rand"
	"testing"

	"fiacre/api"
	"fiacre/dispatch"
)

// TestCheckPlan is of P5.2: the errors of a plan, where they are, and which comes first.
func TestCheckPlan(t *testing.T) {
	needy := two() // b alone is fit for q
	needy.Cars[1].Chair, needy.Orders[1].Chair = true, true
	for _, x := range []struct {
		r      api.DispatchRound
		plan   []int
		number int
		e      api.Errno
	}{
		{two(), []int{0, 1}, 0, api.OK},
		{two(), []int{1, 0}, 0, api.OK},
		{two(), []int{-1, 0}, 0, api.OK},
		{two(), []int{-1, -1}, 0, api.OK},
		{needy, []int{0, 1}, 0, api.OK},
		{api.DispatchRound{}, nil, 0, api.OK},
		{with(func(r *api.DispatchRound) { r.Cars, r.Wait = nil, [][]int{nil, nil} }), []int{-1, -1}, 0, api.OK},

		{nameless(), []int{0, 1}, 0, api.ErrName},
		{nameless(), nil, 0, api.ErrName},
		{two(), nil, 0, api.ErrShape},
		{two(), []int{0}, 0, api.ErrShape},
		{two(), []int{0, 1, -1}, 0, api.ErrShape},
		{two(), []int{9, 9, 9}, 0, api.ErrShape},
		{api.DispatchRound{}, []int{-1}, 0, api.ErrShape},
		{two(), []int{2, 0}, 0, api.ErrMissing},
		{two(), []int{0, -2}, 1, api.ErrMissing},
		{two(), []int{0, math.MinInt}, 1, api.ErrMissing},
		{two(), []int{0, math.MaxInt}, 1, api.ErrMissing},
		{needy, []int{1, 0}, 1, api.ErrClash},
		{two(), []int{1, 1}, 1, api.ErrDouble},
		{needy, []int{0, 0}, 1, api.ErrClash}, // not fit comes ahead of twice
		{needy, []int{1, 1}, 1, api.ErrDouble},
		{needy, []int{-2, 0}, 0, api.ErrMissing}, // order by order
	} {
		what := fmt.Sprint("CheckPlan ", x.plan)
		at(t, what, x.number, x.e)(dispatch.CheckPlan(x.r, x.plan))
		if x.e != api.OK {
			fails(t, "CostOf", x.e)(dispatch.CostOf(x.r, x.plan))
			fails(t, "Served", x.e)(dispatch.Served(x.r, x.plan))
			fails(t, "Longest", x.e)(dispatch.Longest(x.r, x.plan))
			fails(t, "FormatPlan", x.e)(dispatch.FormatPlan(x.r, x.plan))
			fails(t, "Rolled", x.e)(dispatch.Rolled(x.r, x.plan))
		}
	}
}

// TestTwiceAfar is of P5.2: an order that is not the next one may have the car, too.
func TestTwiceAfar(t *testing.T) {
	r := full()
	at(t, "CheckPlan", 5, api.ErrDouble)(dispatch.CheckPlan(r, []int{1, 2, -1, -1, 3, 1, 2, 0}))
	at(t, "CheckPlan of nobody", 0, api.OK)(dispatch.CheckPlan(r, []int{7, -1, -1, -1, 3, 1, 2, 0}))
}

// TestAnyPlan is of P5.2: what plans come to.
func TestAnyPlan(t *testing.T) {
	r := rand.New(rand.NewSource(52))
	for range 1000 {
		x := anyRound(r, 8)
		plan := anyPlan(r, x)
		what := fmt.Sprint(x, plan)
		at(t, what, 0, api.OK)(dispatch.CheckPlan(x, plan))
		gives(t, "CostOf "+what, slowCost(x, plan))(dispatch.CostOf(x, plan))
		gives(t, "Served "+what, slowServed(plan))(dispatch.Served(x, plan))
		gives(t, "Longest "+what, slowLongest(x, plan))(dispatch.Longest(x, plan))
	}
	gives(t, "CostOf", 500)(dispatch.CostOf(two(), []int{0, 1}))
	gives(t, "CostOf of nobody", 2000000)(dispatch.CostOf(two(), []int{-1, -1}))
	gives(t, "Longest", 200)(dispatch.Longest(two(), []int{1, 0}))
	gives(t, "Longest of nobody", 0)(dispatch.Longest(two(), []int{-1, -1}))
	gives(t, "Served", "[1]")(dispatch.Served(two(), []int{-1, 0}))
}

// TestRolledCost is of P5.11: what a plan of least cost costs is its waits, and the least cost of what is left.
func TestRolledCost(t *testing.T) {
	r := rand.New(rand.NewSource(53))
	for range 400 {
		x := anyRound(r, 8)
		b := first(dispatch.Best(x))
		waits := 0
		for _, order := range slowServed(b.Plan) {
			waits += x.Wait[order][b.Plan[order]]
		}
		left, e := dispatch.Rolled(x, b.Plan)
		if rest := first(dispatch.Best(left)).Cost; e != api.OK || b.Cost != waits+rest {
			t.Errorf("%v: the cost %d is not the waits %d and %d of the rest, error %d", x, b.Cost, waits, rest, e)
		}
	}
}
