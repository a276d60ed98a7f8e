package street_test

import (
	"fmt"
	"math/rand"
	"reflect"
	"slices"
	"strings"
	"testing"

	"fiacre/api"
	"fiacre/street"
)

// gives returns a function that takes a result and its error, and compares the result with what is wanted. A nil list and an empty one are the same.
func gives(t *testing.T, what string, wanted any) func(got any, e api.Errno) {
	t.Helper()
	return func(got any, e api.Errno) {
		t.Helper()
		if fmt.Sprint(got) != fmt.Sprint(wanted) || e != api.OK {
			t.Errorf("%s: %v, error %d; want %v", what, got, e, wanted)
		}
	}
}

// fails returns a function that takes a result and its error, and wants this error, and nothing beside it.
func fails(t *testing.T, what string, wanted api.Errno) func(got any, e api.Errno) {
	t.Helper()
	return func(got any, e api.Errno) {
		t.Helper()
		if !isNothing(got) || e != wanted {
			t.Errorf("%s: %v, error %d; want the error %d and nothing beside it", what, got, e, wanted)
		}
	}
}

func isNothing(x any) bool {
	v := reflect.ValueOf(x)
	if v.Kind() == reflect.Slice {
		return v.Len() == 0
	}
	if v.Kind() != reflect.Struct {
		return v.IsZero()
	}
	for i := range v.NumField() {
		if !isNothing(v.Field(i).Interface()) {
			return false
		}
	}
	return true
}

// way returns a way, its metres being left out.
func way(w []int, _ int, e api.Errno) ([]int, api.Errno) { return w, e }

func point(at, lo, hi int) api.StreetPoint {
	return api.StreetPoint{At: at, Takes: api.Range{Lo: lo, Hi: hi}}
}

func road(name string, from, to, metres int, points ...api.StreetPoint) api.StreetRoad {
	return api.StreetRoad{Name: name, From: from, To: to, Metres: metres, Points: points}
}

// even returns a road that always takes as long as it has metres.
func even(name string, from, to, metres int) api.StreetRoad {
	return road(name, from, to, metres, point(0, metres, metres))
}

func net(places int, roads ...api.StreetRoad) api.StreetNet {
	n := api.StreetNet{Roads: roads}
	for i := range places {
		n.Places = append(n.Places, fmt.Sprint("p", i))
	}
	return n
}

// abc is the net of the document's examples.
func abc() api.StreetNet {
	return api.StreetNet{Places: []string{"a", "b", "c"}, Roads: []api.StreetRoad{
		road("x", 0, 1, 1000, point(0, 100, 200), point(3600, 700, 800)),
		road("y", 1, 2, 500, point(0, 60, 90)),
		road("z", 0, 2, 2000, point(0, 900, 900)),
	}}
}

const abcText = "place a\nplace b\nplace c\nroad x a b 1000\ntime 0 100 200\ntime 3600 700 800\n" +
	"road y b c 500\ntime 0 60 90\nroad z a c 2000\ntime 0 900 900\n"

// nameless is a net of which the name of a place is none.
func nameless() api.StreetNet {
	n := abc()
	n.Places[0] = ""
	return n
}

// ring is a net of two places with a road to and fro.
func ring() api.StreetNet { return net(2, even("to", 0, 1, 7200), even("fro", 1, 0, 3)) }

func trip(from, to, at int) api.StreetTrip { return api.StreetTrip{From: from, To: to, At: at} }

func span(lo, hi int) api.Range { return api.Range{Lo: lo, Hi: hi} }

// anyNet returns a random right net of up to six places.
func anyNet(r *rand.Rand) api.StreetNet {
	n := net(2 + r.Intn(5))
	for i := range r.Intn(12) {
		from := r.Intn(len(n.Places))
		to := (from + 1 + r.Intn(len(n.Places)-1)) % len(n.Places)
		n.Roads = append(n.Roads, road(fmt.Sprint("r", i), from, to, r.Intn(4)*r.Intn(100), anyPoints(r)...))
	}
	return n
}

// anyPoints returns random points in order, also ones that are near each other and about midnight, or that fall as steeply as they may.
func anyPoints(r *rand.Rand) []api.StreetPoint {
	base, most := r.Intn(api.Day), []int{0, 20, 400, api.MaxStreetTakes}[r.Intn(4)]
	var times []int
	for range 1 + r.Intn(api.MaxStreetPoints) {
		at := []int{base, 0, api.Day - 1, r.Intn(api.Day)}[r.Intn(4)] + r.Intn(200) - 100
		times = append(times, (at+api.Day)%api.Day)
	}
	slices.Sort(times)
	var points []api.StreetPoint
	for _, at := range slices.Compact(times) {
		lo := r.Intn(most + 1)
		points = append(points, point(at, lo, min(lo+r.Intn(most+1), api.MaxStreetTakes)))
	}
	for raised(points) {
	}
	return points
}

// raised raises ends that fall too steeply to be in order, and tells whether there were any.
func raised(points []api.StreetPoint) bool {
	any := false
	for i, p := range points {
		next, d := &points[0], points[0].At+api.Day-p.At
		if i+1 < len(points) {
			next, d = &points[i+1], points[i+1].At-p.At
		}
		lo, hi := max(next.Takes.Lo, p.Takes.Lo-d), max(next.Takes.Hi, p.Takes.Hi-d)
		any = any || next.Takes != span(lo, hi)
		next.Takes = span(lo, hi)
	}
	return any
}

// anyTime returns a random time, most often one about a point of the net.
func anyTime(r *rand.Rand, n api.StreetNet) int {
	if len(n.Roads) == 0 || r.Intn(4) == 0 {
		return []int{0, 1, api.MaxStreetTime, r.Intn(api.MaxStreetTime)}[r.Intn(4)]
	}
	points := n.Roads[r.Intn(len(n.Roads))].Points
	at := r.Intn(8)*api.Day + points[r.Intn(len(points))].At + r.Intn(20) - 10
	return min(max(at, 0), api.MaxStreetTime)
}

func anyTrip(r *rand.Rand, n api.StreetNet) api.StreetTrip {
	return trip(r.Intn(len(n.Places)), r.Intn(len(n.Places)), anyTime(r, n))
}

// anyWay returns a random way of up to so many roads from a place, also one that comes to places twice.
func anyWay(r *rand.Rand, n api.StreetNet, from, most int) []int {
	var w []int
	for range r.Intn(most + 1) {
		var on []int
		for i, x := range n.Roads {
			if x.From == from {
				on = append(on, i)
			}
		}
		if len(on) == 0 {
			return w
		}
		w = append(w, on[r.Intn(len(on))])
		from = n.Roads[w[len(w)-1]].To
	}
	return w
}

// slowTakes is the definition of what a road takes: on three days, one behind the other, the two points about the time are looked up.
func slowTakes(points []api.StreetPoint, at int) api.Range {
	var all []api.StreetPoint
	for day := -1; day <= 1; day++ {
		for _, p := range points {
			p.At += day * api.Day
			all = append(all, p)
		}
	}
	for i, p := range all[1:] {
		before, time := all[i], at%api.Day
		if before.At <= time && time <= p.At {
			end := func(from, to int) int {
				all, gone := p.At-before.At, time-before.At
				least := 0
				for least*all < from*all+(to-from)*gone {
					least++
				}
				return least
			}
			return span(end(before.Takes.Lo, p.Takes.Lo), end(before.Takes.Hi, p.Takes.Hi))
		}
	}
	panic("no time between two points")
}

func slowArrival(n api.StreetNet, w []int, at int) api.Range {
	a := span(at, at)
	for _, i := range w {
		a = span(a.Lo+slowTakes(n.Roads[i].Points, a.Lo).Lo, a.Hi+slowTakes(n.Roads[i].Points, a.Hi).Hi)
	}
	return a
}

func slowMetres(n api.StreetNet, w []int) int {
	metres := 0
	for _, i := range w {
		metres += n.Roads[i].Metres
	}
	return metres
}

// simpleWays returns all ways from a place that come to no place twice.
func simpleWays(n api.StreetNet, from int) [][]int {
	var all [][]int
	var on func(w []int, passed ...int)
	on = func(w []int, passed ...int) {
		all = append(all, w)
		for i, x := range n.Roads {
			if x.From == passed[len(passed)-1] && !slices.Contains(passed, x.To) {
				on(append(slices.Clone(w), i), append(slices.Clone(passed), x.To)...)
			}
		}
	}
	on(nil, from)
	return all
}

// endOf returns where a way from a place ends.
func endOf(n api.StreetNet, from int, w []int) int {
	if len(w) == 0 {
		return from
	}
	return n.Roads[w[len(w)-1]].To
}

// leastOf returns for each place the least number of all ways to it, -1 if there is no way.
func leastOf(n api.StreetNet, from int, number func(w []int) int) []int {
	least := make([]int, len(n.Places))
	for i := range least {
		least[i] = -1
	}
	for _, w := range simpleWays(n, from) {
		if end := endOf(n, from, w); least[end] < 0 || number(w) < least[end] {
			least[end] = number(w)
		}
	}
	return least
}

func slowEarliest(n api.StreetNet, from, at int) api.StreetLabels {
	return api.StreetLabels{
		Soon: leastOf(n, from, func(w []int) int { return slowArrival(n, w, at).Lo }),
		Late: leastOf(n, from, func(w []int) int { return slowArrival(n, w, at).Hi }),
	}
}

func slowHeights(n api.StreetNet, from int) []int {
	return leastOf(n, from, func(w []int) int { return slowMetres(n, w) })
}

// joins tells whether a list of roads is a way from a place to another one that comes to no place twice.
func joins(n api.StreetNet, w []int, from, to int) bool {
	passed := []int{from}
	for _, i := range w {
		if i < 0 || i >= len(n.Roads) || n.Roads[i].From != from || slices.Contains(passed, n.Roads[i].To) {
			return false
		}
		from = n.Roads[i].To
		passed = append(passed, from)
	}
	return from == to
}

// text returns the text of a net, for messages.
func text(n api.StreetNet) string {
	s, _ := street.Print(n)
	return strings.ReplaceAll(s, "\n", ";")
}
