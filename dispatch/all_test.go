package dispatch_test

import (
	"fmt"
	"math"
	"math/rand"
	"slices"
	"strings"
	"sync"
	"testing"

	"fiacre/api"
	"fiacre/dispatch"
)

// odd returns a number that is likely to be at an end of something.
func odd(r *rand.Rand) int {
	ends := []int{math.MinInt, -100000000000001, -2, -1, 0, 1, 2, 6, 7, 8, 9, 64, 1000, 1001, 100000, 100001, 100000000000001, math.MaxInt}
	return ends[r.Intn(len(ends))]
}

// small returns a number that is most often one of a car or an order.
func small(r *rand.Rand) int {
	if r.Intn(8) == 0 {
		return odd(r)
	}
	return r.Intn(9) - 1
}

func oddName(r *rand.Rand) string {
	return []string{"", "a", "n0", "n1", "-", "7", "\xff\n", "a=b", "a;b", "abcdefghijklm"}[r.Intn(10)]
}

// oddList returns a list of numbers of about a length.
func oddList(r *rand.Rand, length int) []int {
	list := make([]int, max(0, length+max(0, r.Intn(12)-9)-max(0, r.Intn(12)-9)))
	for i := range list {
		list[i] = small(r)
	}
	return list
}

// spoilt returns a round in which a few things are changed to odd ones.
func spoilt(r *rand.Rand, x api.DispatchRound) api.DispatchRound {
	x = copied(x)
	for range r.Intn(3) {
		switch r.Intn(9) {
		case 0:
			x.Cars = append(x.Cars, api.DispatchCar{Name: oddName(r), Seats: odd(r)})
		case 1:
			x.Orders = append(x.Orders, api.DispatchOrder{Name: oddName(r), Seats: odd(r), Priority: odd(r)})
		case 2:
			x.Wait = append(x.Wait, oddList(r, len(x.Cars)))
		case 3:
			x.Wait = x.Wait[:r.Intn(len(x.Wait)+1)]
		case 4:
			x.Cars = x.Cars[:r.Intn(len(x.Cars)+1)]
		case 5:
			x.Orders = x.Orders[:r.Intn(len(x.Orders)+1)]
		case 6:
			x.Forbidden = append(x.Forbidden, [2]int{small(r), small(r)})
		case 7:
			x.Forbidden = slices.Repeat(x.Forbidden, 2)
		case 8:
			if len(x.Wait) > 0 {
				x.Wait[r.Intn(len(x.Wait))] = oddList(r, len(x.Cars))
			}
		}
	}
	return x
}

// TestNoPanic is of P1: with whatever arguments every function ends, and beside an error all other results are zero values.
func TestNoPanic(t *testing.T) {
	r := rand.New(rand.NewSource(8))
	for range 5000 {
		right := anyRound(r, 8)
		x := spoilt(r, right)
		plan := [2][]int{anyPlan(r, right), oddList(r, len(x.Orders))}[r.Intn(2)]
		prices := api.DispatchPrices{Orders: oddList(r, len(x.Orders)), Cars: oddList(r, len(x.Cars))}
		ends := zero(t)
		ends(dispatch.IsFit(x, small(r), small(r)))
		ends(dispatch.Fits(x, small(r)))
		ends(dispatch.PenaltyOf(odd(r)))
		ends(dispatch.CostOf(x, plan))
		ends(dispatch.Served(x, plan))
		ends(dispatch.Longest(x, plan))
		ends(dispatch.CheckPrices(x, prices))
		ends(dispatch.Best(x))
		ends(dispatch.MostServed(x))
		ends(leastLongest(x))
		ends(dispatch.CheckHall(x, oddList(r, 2)))
		ends(dispatch.Hall(x))
		ends(dispatch.Declined(x, small(r), small(r)))
		ends(dispatch.Cancelled(x, small(r)))
		ends(dispatch.Withdrawn(x, small(r)))
		ends(dispatch.Rolled(x, plan))
		ends(dispatch.Fair(x, oddList(r, len(x.Cars)), odd(r)))
		ends(dispatch.FormatPlan(x, plan))
		ends(dispatch.ParsePlan(x, scribbled(r, first(dispatch.FormatPlan(right, anyPlan(r, right))))))
		dispatch.CheckRound(x)
		dispatch.CheckPlan(x, plan)
	}
}

// zero returns a function that takes a result and its error, and wants nothing beside an error.
func zero(t *testing.T) func(got any, e api.Errno) {
	t.Helper()
	return func(got any, e api.Errno) {
		t.Helper()
		if e < api.OK || e > api.ErrBalance || e != api.OK && !isNothing(got) {
			t.Errorf("beside the error %d: %v", e, got)
		}
	}
}

// scribbled returns a text in which a few bytes are changed.
func scribbled(r *rand.Rand, s string) string {
	b := []byte(s)
	for range r.Intn(3) {
		if len(b) > 0 {
			b[r.Intn(len(b))] = "=;-n019\xff"[r.Intn(8)]
		}
	}
	return string(b)
}

// roomy returns a list of the same elements with room behind it.
func roomy[T any](list []T) []T { return append(make([]T, 0, len(list)+9), list...) }

func roomyRound(r api.DispatchRound) api.DispatchRound {
	r.Cars, r.Orders, r.Wait, r.Forbidden = roomy(r.Cars), roomy(r.Orders), roomy(r.Wait), roomy(r.Forbidden)
	for i := range r.Wait {
		r.Wait[i] = roomy(r.Wait[i])
	}
	return r
}

// behind returns a round, and what stands in the room behind all its lists.
func behind(r api.DispatchRound) string {
	text := fmt.Sprint(r.Cars[:cap(r.Cars)], r.Orders[:cap(r.Orders)], r.Wait[:cap(r.Wait)], r.Forbidden[:cap(r.Forbidden)])
	for _, row := range r.Wait {
		text += fmt.Sprint(row[:cap(row)])
	}
	return text
}

// spoil changes all that a round has, and what is in the room behind it.
func spoil(r api.DispatchRound) {
	for _, row := range r.Wait {
		spoilList(row, 77)
	}
	spoilList(r.Cars, api.DispatchCar{Name: "spoilt"})
	spoilList(r.Orders, api.DispatchOrder{Name: "spoilt"})
	spoilList(r.Wait, nil)
	spoilList(r.Forbidden, [2]int{7, 7})
}

// spoilList changes all that a list has, and what is in the room behind it.
func spoilList[T any](list []T, odd T) {
	for i := range list {
		list[i] = odd
	}
	_ = append(list, odd)
}

// TestMemory is of R3: arguments stay as they are, and results share no memory with them.
func TestMemory(t *testing.T) {
	x := full()
	x.Forbidden = [][2]int{{0, 0}, {3, 4}, {6, 1}}
	x = roomyRound(x)
	plan, set, trips := roomy([]int{1, 2, -1, 0, -1, 3, 4, 5}), roomy([]int{0, 1}), roomy([]int{1, 2, 3, 4, 5, 6, 7, 8})
	prices := api.DispatchPrices{Orders: roomy(make([]int, 8)), Cars: roomy(make([]int, 8))}
	alone := roomyRound(first(dispatch.Withdrawn(two(), 1)))
	all := func() string {
		return behind(x) + behind(alone) + fmt.Sprint(plan[:17], set[:11], trips[:17], prices.Orders[:17], prices.Cars[:17])
	}
	before := all()
	spoil(first(dispatch.Declined(x, 1, 1)))
	spoil(first(dispatch.Cancelled(x, 7)))
	spoil(first(dispatch.Cancelled(x, 0)))
	spoil(first(dispatch.Withdrawn(x, 7)))
	spoil(first(dispatch.Withdrawn(x, 0)))
	spoil(first(dispatch.Rolled(x, plan)))
	spoil(first(dispatch.Rolled(x, slices.Repeat([]int{-1}, 8))))
	spoil(first(dispatch.Fair(x, trips, 9)))
	spoilList(first(dispatch.Fits(x, 1)), 77)
	spoilList(first(dispatch.Served(x, plan)), 77)
	spoilList(first(dispatch.CheckHall(alone, set)), 77)
	spoilList(first(dispatch.Hall(alone)), 77)
	spoilList(first(dispatch.ParsePlan(alone, "p=a;q=-")), 77)
	spoilList(first(leastLongest(x)).Plan, 77)
	b := first(dispatch.Best(x))
	spoilList(b.Plan, 77)
	spoilList(b.Prices.Orders, 77)
	spoilList(b.Prices.Cars, 77)
	dispatch.CheckRound(x)
	dispatch.IsFit(x, 0, 1)
	dispatch.CheckPlan(x, plan)
	dispatch.CostOf(x, plan)
	dispatch.Longest(x, plan)
	dispatch.CheckPrices(x, prices)
	dispatch.MostServed(x)
	dispatch.FormatPlan(x, plan)
	if after := all(); after != before {
		t.Errorf("an argument was changed from %s to %s", before, after)
	}
}

// TestMemoryOfResults is of R3: the lists of one result share no memory with each other.
func TestMemoryOfResults(t *testing.T) {
	b := first(dispatch.Best(full()))
	before := fmt.Sprint(b)
	for _, list := range [][]int{b.Plan, b.Prices.Orders, b.Prices.Cars} {
		for i := range 20 {
			list = append(list, i)
		}
	}
	if after := fmt.Sprint(b); after != before {
		t.Errorf("%s became %s", before, after)
	}
	x := full()
	x.Forbidden = allPairs(x)[:3]
	plan := []int{-1, -1, -1, -1, 0, -1, -1, -1}
	for _, make := range []func() (api.DispatchRound, api.Errno){
		func() (api.DispatchRound, api.Errno) { return dispatch.Declined(x, 7, 7) },
		func() (api.DispatchRound, api.Errno) { return dispatch.Cancelled(x, 3) },
		func() (api.DispatchRound, api.Errno) { return dispatch.Withdrawn(x, 3) },
		func() (api.DispatchRound, api.Errno) { return dispatch.Rolled(x, plan) },
		func() (api.DispatchRound, api.Errno) {
			return dispatch.Fair(x, []int{0, 1, 0, 0, 0, 0, 0, 0}, 1)
		},
	} {
		left, e := make()
		before := fmt.Sprint(left)
		for i, row := range left.Wait {
			for range 20 {
				row = append(row, 77)
			}
			if after := fmt.Sprint(left); after != before || e != api.OK {
				t.Errorf("behind an addition to the row %d, %s became %s, error %d", i, before, after, e)
			}
		}
	}
}

// TestNothing is of R5: a nil list and an empty one are the same.
func TestNothing(t *testing.T) {
	for _, x := range []api.DispatchRound{{}, {Cars: []api.DispatchCar{}, Orders: []api.DispatchOrder{}, Wait: [][]int{}, Forbidden: [][2]int{}}} {
		for _, plan := range [][]int{nil, {}} {
			at(t, "CheckRound", 0, api.OK)(dispatch.CheckRound(x))
			at(t, "CheckPlan", 0, api.OK)(dispatch.CheckPlan(x, plan))
			gives(t, "CostOf", 0)(dispatch.CostOf(x, plan))
			gives(t, "Served", "[]")(dispatch.Served(x, plan))
			gives(t, "Rolled", x)(dispatch.Rolled(x, plan))
			gives(t, "Fair", x)(dispatch.Fair(x, plan, 5))
			gives(t, "FormatPlan", "")(dispatch.FormatPlan(x, plan))
			gives(t, "CheckPrices", 0)(dispatch.CheckPrices(x, api.DispatchPrices{Orders: plan, Cars: plan}))
			fails(t, "CheckHall", api.ErrProof)(dispatch.CheckHall(x, plan))
			at(t, "CheckPlan of orders", 0, api.ErrShape)(dispatch.CheckPlan(two(), plan))
			fails(t, "Fair of cars", api.ErrShape)(dispatch.Fair(two(), plan, 5))
		}
		gives(t, "Best", "{[] 0 {[] []}}")(dispatch.Best(x))
		gives(t, "MostServed", 0)(dispatch.MostServed(x))
		gives(t, "LeastLongest", "{0 []}")(leastLongest(x))
		fails(t, "Hall", api.ErrNone)(dispatch.Hall(x))
	}
	for _, row := range [][]int{nil, {}} {
		carless := with(func(r *api.DispatchRound) { r.Cars, r.Wait = nil, [][]int{row, row} })
		gives(t, "Best without cars", "[-1 -1]")(checkBest(t, carless).Plan, api.OK)
		gives(t, "LeastLongest without cars", "{0 [-1 -1]}")(leastLongest(carless))
		gives(t, "Fits without cars", "[]")(dispatch.Fits(carless, 0))
	}
}

// TestLarge is of P1: also long texts and lists are soon done with.
func TestLarge(t *testing.T) {
	fails(t, "ParsePlan of many pieces", api.ErrSyntax)(dispatch.ParsePlan(two(), strings.Repeat("p=a;", 1<<20)))
	fails(t, "ParsePlan of a long name", api.ErrMissing)(dispatch.ParsePlan(two(), "p=a;q="+strings.Repeat("b", 1<<20)))
	fails(t, "ParsePlan of many signs", api.ErrSyntax)(dispatch.ParsePlan(two(), "p=a;q"+strings.Repeat("=", 1<<20)))
	at(t, "CheckRound of many cars", 0, api.ErrLarge)(dispatch.CheckRound(api.DispatchRound{Cars: make([]api.DispatchCar, 1<<20)}))
	at(t, "CheckRound of many orders", 0, api.ErrLarge)(dispatch.CheckRound(api.DispatchRound{Orders: make([]api.DispatchOrder, 1<<20)}))
	at(t, "CheckRound of many pairs", 0, api.ErrLarge)(dispatch.CheckRound(with(func(r *api.DispatchRound) { r.Forbidden = make([][2]int, 1<<20) })))
	at(t, "CheckPlan of many numbers", 0, api.ErrShape)(dispatch.CheckPlan(two(), make([]int, 1<<20)))
	fails(t, "CheckHall of many orders", api.ErrOrder)(dispatch.CheckHall(two(), make([]int, 1<<20)))
}

// TestAtOnce is of R4: results are the same, whatever else goes on.
func TestAtOnce(t *testing.T) {
	x := full()
	x.Forbidden = allPairs(x)[:11]
	wanted := fmt.Sprint(dispatch.Best(x))
	var calls sync.WaitGroup
	for range 50 {
		calls.Go(func() {
			if got := fmt.Sprint(dispatch.Best(x)); got != wanted {
				t.Errorf("Best gave %s, and then %s", wanted, got)
			}
		})
	}
	calls.Wait()
}
