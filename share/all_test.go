package share_test

import (
	"fmt"
	"math"
	"math/rand"
	"slices"
	"strings"
	"sync"
	"testing"

	"fiacre/api"
	"fiacre/share"
)

// odd returns a number that is likely to be at an end of something.
func odd(r *rand.Rand) int {
	ends := []int{math.MinInt, -20001, -2, -1, 0, 1, 2, 5, 6, 7, 8, 9, 11, 12, 13, 20000, 20001, 1000000, 1000001, math.MaxInt}
	return ends[r.Intn(len(ends))]
}

// small returns a number that is most often one of a rider, a stop or a place.
func small(r *rand.Rand) int {
	if r.Intn(8) == 0 {
		return odd(r)
	}
	return r.Intn(9) - 1
}

func oddName(r *rand.Rand) string {
	return []string{"", "a", "n0", "n1", "-", "+", "7", "\xff\n", "a b", "abcdefghijklm"}[r.Intn(10)]
}

func oddRider(r *rand.Rand) api.ShareRider {
	return api.ShareRider{Name: oddName(r), From: small(r), To: small(r), Seats: small(r), Detour: odd(r), Ready: odd(r), Aboard: r.Intn(2) == 0, Ridden: odd(r)}
}

// spoiltMap returns a map in which a few things are changed to odd ones.
func spoiltMap(r *rand.Rand, m api.ShareMap) api.ShareMap {
	m = copiedMap(m)
	for range max(0, r.Intn(6)-3) {
		i := r.Intn(len(m.Times) + 1)
		switch {
		case i == len(m.Times):
			m.Times = append(m.Times, []int{odd(r), odd(r)})
		case r.Intn(3) == 0:
			m.Times = m.Times[:i]
		case r.Intn(2) == 0 || len(m.Times[i]) == 0:
			m.Times[i] = append(m.Times[i], odd(r))
		default:
			m.Times[i][r.Intn(len(m.Times[i]))] = odd(r)
		}
	}
	return m
}

// spoiltPlan returns a plan in which a few things are changed to odd ones.
func spoiltPlan(r *rand.Rand, p api.SharePlan) api.SharePlan {
	p = copiedPlan(p)
	for range max(0, r.Intn(6)-3) {
		switch r.Intn(7) {
		case 0:
			p.Car = api.ShareCar{At: small(r), Time: odd(r), Seats: small(r)}
		case 1:
			p.Riders = append(p.Riders, oddRider(r))
		case 2:
			p.Riders = p.Riders[:r.Intn(len(p.Riders)+1)]
		case 3:
			p.Stops = append(p.Stops, api.ShareStop{Rider: small(r), Out: r.Intn(2) == 0})
		case 4:
			p.Stops = p.Stops[:r.Intn(len(p.Stops)+1)]
		case 5:
			p.Riders = slices.Repeat(p.Riders, 2)
		case 6:
			if len(p.Riders) > 0 {
				p.Riders[r.Intn(len(p.Riders))] = oddRider(r)
			}
		}
	}
	return p
}

// TestNoPanic is of P1: with whatever arguments every function ends, and beside an error all other results are zero values.
func TestNoPanic(t *testing.T) {
	r := rand.New(rand.NewSource(76))
	for range 6000 {
		size := scale(r)
		right := anyMap(r, 8, size)
		m, p := spoiltMap(r, right), spoiltPlan(r, anyPlan(r, right, 4, size))
		x := [2]api.ShareRider{anyRider(r, right, "new", size), oddRider(r)}[r.Intn(2)]
		var plans []api.SharePlan
		for range r.Intn(10) {
			plans = append(plans, spoiltPlan(r, anyPlan(r, right, 2, size)))
		}
		ends := zero(t)
		ends(share.FirstShort(m))
		ends(share.Closed(m))
		ends(share.TimesOf(m, p))
		ends(share.SeatsAt(m, p))
		ends(share.RideOf(m, p, small(r)))
		ends(share.FirstBroken(m, p))
		ends(share.CostOf(m, p))
		ends(share.Without(m, p, small(r)))
		ends(share.Inserted(m, p, api.ShareInsert{Rider: x, In: small(r), Out: small(r)}))
		ends(share.Inserts(m, p, x))
		ends(share.BestInsert(m, p, x))
		ends(bestCar(m, plans, x))
		ends(share.Delayed(m, p, api.ShareDelay{Stop: small(r), By: odd(r)}))
		ends(share.GreatestDelay(m, p, small(r)))
		ends(bestOrder(m, p))
		ends(share.ParseStops(p.Riders, scribbled(r, share.FormatStops(p))))
		share.CheckMap(m)
		share.CheckPlan(m, p)
	}
}

// zero returns a function that takes a result and its error, and wants nothing beside an error.
func zero(t *testing.T) func(got any, e api.Errno) {
	t.Helper()
	return func(got any, e api.Errno) {
		t.Helper()
		if e < api.OK || e > api.ErrBalance || e != api.OK && !isNothing(got) {
			t.Errorf("beside the error %d: %v", e, got)
		}
	}
}

// scribbled returns a text in which a few bytes are changed.
func scribbled(r *rand.Rand, s string) string {
	b := []byte(s)
	for range r.Intn(3) {
		if len(b) > 0 {
			b[r.Intn(len(b))] = "+- n01\xff\t"[r.Intn(8)]
		}
	}
	return string(b)
}

// roomy returns a list of the same elements with room behind it.
func roomy[T any](list []T) []T { return append(make([]T, 0, len(list)+9), list...) }

func roomyMap(m api.ShareMap) api.ShareMap {
	m.Times = roomy(m.Times)
	for i := range m.Times {
		m.Times[i] = roomy(m.Times[i])
	}
	return m
}

func roomyPlan(p api.SharePlan) api.SharePlan {
	p.Riders, p.Stops = roomy(p.Riders), roomy(p.Stops)
	return p
}

// behind returns a map and plans, and what stands in the room behind all their lists.
func behind(m api.ShareMap, plans []api.SharePlan) string {
	text := fmt.Sprint(m.Times[:cap(m.Times)], plans[:cap(plans)])
	for _, row := range m.Times {
		text += fmt.Sprint(row[:cap(row)])
	}
	for _, p := range plans {
		text += fmt.Sprint(p.Riders[:cap(p.Riders)], p.Stops[:cap(p.Stops)])
	}
	return text
}

// spoil changes all that a list has, and what is in the room behind it.
func spoil[T any](list []T, odd T) {
	for i := range list {
		list[i] = odd
	}
	_ = append(list, odd)
}

// spoilPlan changes all that a plan has.
func spoilPlan(p api.SharePlan) {
	spoil(p.Riders, api.ShareRider{Name: "spoilt"})
	spoil(p.Stops, api.ShareStop{Rider: 77})
}

// TestMemory is of R3: arguments stay as they are, and results share no memory with them.
func TestMemory(t *testing.T) {
	m := roomyMap(three())
	p, nobody := roomyPlan(both()), roomyPlan(api.SharePlan{Car: api.ShareCar{Seats: 1}})
	plans := roomy([]api.SharePlan{p, roomyPlan(alone()), nobody})
	before := behind(m, plans)
	x := api.ShareRider{Name: "x", From: 2, To: 0, Seats: 1, Detour: 900}
	for _, row := range first(share.Closed(m)).Times {
		spoil(row, 77)
	}
	spoil(first(share.Closed(m)).Times, nil)
	for _, p := range plans {
		spoil(first(share.TimesOf(m, p)), 77)
		spoil(first(share.SeatsAt(m, p)), 77)
		spoil(first(share.Delayed(m, p, api.ShareDelay{})), 77)
		spoil(first(share.Inserts(m, p, x)), api.ShareOffer{})
		spoil(first(share.ParseStops(p.Riders, "")), api.ShareStop{})
		spoil(first(share.ParseStops(p.Riders, share.FormatStops(p))), api.ShareStop{})
		spoilPlan(first(bestOrder(m, p)).Plan)
		for rider := range p.Riders {
			spoilPlan(first(share.Without(m, p, rider)))
		}
		for in := range len(p.Stops) + 1 {
			spoilPlan(first(share.Inserted(m, p, api.ShareInsert{Rider: x, In: in, Out: len(p.Stops) + 1})))
			spoilPlan(first(share.Inserted(m, p, api.ShareInsert{Rider: x, In: in, Out: in + 1})))
		}
		share.CheckPlan(m, p)
		share.CostOf(m, p)
		share.FirstBroken(m, p)
		share.RideOf(m, p, 0)
		share.BestInsert(m, p, x)
		share.GreatestDelay(m, p, 0)
	}
	share.BestCar(m, plans, x)
	share.CheckMap(m)
	share.FirstShort(m)
	if after := behind(m, plans); after != before {
		t.Errorf("an argument was changed from %s to %s", before, after)
	}
}

// TestMemoryOfResults is of R3: the lists of one result share no memory with each other.
func TestMemoryOfResults(t *testing.T) {
	c := first(share.Closed(three()))
	before := fmt.Sprint(c)
	for _, row := range c.Times {
		for range 20 {
			row = append(row, 77)
		}
	}
	if after := fmt.Sprint(c); after != before {
		t.Errorf("%s became %s", before, after)
	}
}

// TestNothing is of R5: a nil list and an empty one are the same.
func TestNothing(t *testing.T) {
	for _, p := range []api.SharePlan{{}, {Riders: []api.ShareRider{}, Stops: []api.ShareStop{}}} {
		p.Car.Seats = 1
		at(t, "CheckPlan", 0, api.OK)(share.CheckPlan(three(), p))
		gives(t, "TimesOf", "[]")(share.TimesOf(three(), p))
		gives(t, "Inserts", "[{0 1 200}]")(share.Inserts(three(), p, bob()))
		gives(t, "Inserted", "{{0 0 1} [{bob 1 2 1 0 0 false 0}] [{0 false} {0 true}]}")(share.Inserted(three(), p, api.ShareInsert{Rider: bob(), In: 0, Out: 1}))
		gives(t, "BestOrder", "{{{0 0 1} [] []} 0}")(bestOrder(three(), p))
		gives(t, "FormatStops", "")(share.FormatStops(p), api.OK)
		gives(t, "ParseStops", "[]")(share.ParseStops(p.Riders, ""))
		at(t, "CheckPlan with riders", 0, api.ErrGap)(share.CheckPlan(three(), with(func(q plan) { q.Stops = p.Stops })))
		at(t, "CheckPlan with stops", 0, api.ErrMissing)(share.CheckPlan(three(), with(func(q plan) { q.Riders = p.Riders })))
	}
	for _, times := range [][][]int{nil, {}} {
		if places, e := share.CheckMap(api.ShareMap{Times: times}); places != [2]int{} || e != api.ErrShape {
			t.Errorf("CheckMap: %v, error %d", places, e)
		}
	}
	for _, l := range [][]api.SharePlan{nil, {}} {
		fails(t, "BestCar", api.ErrShape)(bestCar(three(), l, bob()))
	}
}

// TestLarge is of P1: also long texts and lists are soon done with.
func TestLarge(t *testing.T) {
	fails(t, "ParseStops of many words", api.ErrSyntax)(share.ParseStops(both().Riders, strings.Repeat("+ann ", 1<<20)))
	fails(t, "ParseStops of a long name", api.ErrMissing)(share.ParseStops(both().Riders, "+"+strings.Repeat("a", 1<<20)))
	gives(t, "ParseStops of many stops", 1<<20)(len(first(share.ParseStops(both().Riders, strings.Repeat("+ann ", 1<<20-1)+"-bob"))), api.OK)
	if _, e := share.CheckMap(api.ShareMap{Times: make([][]int, 1<<20)}); e != api.ErrLarge {
		t.Errorf("CheckMap of many places: error %d", e)
	}
	at(t, "CheckPlan of many riders", 0, api.ErrLarge)(share.CheckPlan(three(), with(func(p plan) { p.Riders = make([]api.ShareRider, 1<<20) })))
	at(t, "CheckPlan of many stops", 1, api.ErrDouble)(share.CheckPlan(three(), with(func(p plan) { p.Stops = make([]api.ShareStop, 1<<20) })))
	fails(t, "BestCar of many plans", api.ErrLarge)(bestCar(three(), make([]api.SharePlan, 1<<20), bob()))
	gives(t, "FormatStops of many stops", 1<<22+1<<20-1)(len(share.FormatStops(with(func(p plan) { p.Stops = make([]api.ShareStop, 1<<20) }))), api.OK)
}

// TestAtOnce is of R4: results are the same, whatever else goes on.
func TestAtOnce(t *testing.T) {
	x := api.ShareRider{Name: "x", From: 2, To: 0, Seats: 1, Detour: 900}
	all := func() string {
		return fmt.Sprint(first(share.Inserts(three(), both(), x)), first(bestOrder(three(), crowd(4))), first(share.GreatestDelay(three(), both(), 1)))
	}
	wanted := all()
	var calls sync.WaitGroup
	for range 20 {
		calls.Go(func() {
			if got := all(); got != wanted {
				t.Errorf("first %s, and then %s", wanted, got)
			}
		})
	}
	calls.Wait()
}
