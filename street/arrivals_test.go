package street_test

import (
	"fmt"
	"math"
	"math/rand"
	"slices"
	"testing"

	"fiacre/api"
	"fiacre/street"
)

func labels(soon, late []int) api.StreetLabels { return api.StreetLabels{Soon: soon, Late: late} }

// TestEarliest is of P3.4.
func TestEarliest(t *testing.T) {
	for _, x := range []struct {
		n        api.StreetNet
		from, at int
		labels   api.StreetLabels
	}{
		{abc(), 0, 0, labels([]int{0, 100, 160}, []int{0, 200, 290})},
		{abc(), 0, 3600, labels([]int{3600, 4300, 4360}, []int{3600, 4400, 4490})},
		{abc(), 1, 604800, labels([]int{-1, 604800, 604860}, []int{-1, 604800, 604890})},
		{abc(), 2, 7, labels([]int{-1, -1, 7}, []int{-1, -1, 7})},
		{net(1), 0, 0, labels([]int{0}, []int{0})},
		{isles(), 5, 100, labels([]int{-1, -1, 130, -1, 110, 100, -1}, []int{-1, -1, 130, -1, 110, 100, -1})},
		// By night the way round is faster; as slow as it may, the straight one is.
		{net(3, road("straight", 0, 2, 9, point(0, 100, 300)), road("r", 0, 1, 1, point(0, 10, 200)), road("s", 1, 2, 1, point(0, 10, 200))), 0, 0,
			labels([]int{0, 10, 20}, []int{0, 200, 300})},
		// A road that takes nothing.
		{net(3, even("r", 0, 1, 0), even("s", 1, 2, 0), even("t", 2, 0, 0)), 1, 5, labels([]int{5, 5, 5}, []int{5, 5, 5})},
		// Of parallel roads one is faster at first, the other one later.
		{net(2, road("r", 0, 1, 1, point(0, 10, 10), point(1000, 110, 110)), road("s", 0, 1, 1, point(0, 60, 60))), 0, 499, labels([]int{499, 559}, []int{499, 559})},
		{net(2, road("r", 0, 1, 1, point(0, 10, 10), point(1000, 110, 110)), road("s", 0, 1, 1, point(0, 60, 60))), 0, 490, labels([]int{490, 549}, []int{490, 549})},
	} {
		gives(t, fmt.Sprint("Earliest from ", x.from, " at ", x.at, " of ", text(x.n)), x.labels)(street.Earliest(x.n, x.from, x.at))
		for to := range x.n.Places {
			arrival := trip(x.from, to, x.at)
			if x.labels.Soon[to] < 0 {
				fails(t, fmt.Sprint("Estimate of ", arrival), api.ErrNone)(street.Estimate(x.n, arrival))
				continue
			}
			gives(t, fmt.Sprint("Estimate of ", arrival), span(x.labels.Soon[to], x.labels.Late[to]))(street.Estimate(x.n, arrival))
		}
	}
	fails(t, "Earliest in a wrong net", api.ErrName)(street.Earliest(nameless(), 3, -1))
	fails(t, "Earliest from no place", api.ErrMissing)(street.Earliest(abc(), 3, -1))
	fails(t, "Earliest from below all places", api.ErrMissing)(street.Earliest(abc(), -1, 0))
	fails(t, "Earliest ahead of all times", api.ErrRange)(street.Earliest(abc(), 0, -1))
	fails(t, "Earliest behind all times", api.ErrRange)(street.Earliest(abc(), 0, 604801))
}

// TestTrips is of P3.4 and P3.5: what is wrong with a trip.
func TestTrips(t *testing.T) {
	for _, x := range []struct {
		n api.StreetNet
		t api.StreetTrip
		e api.Errno
	}{
		{nameless(), trip(-1, -1, -1), api.ErrName},
		{abc(), trip(-1, 0, -1), api.ErrMissing},
		{abc(), trip(3, 0, 0), api.ErrMissing},
		{abc(), trip(0, -1, -1), api.ErrMissing},
		{abc(), trip(0, 3, 0), api.ErrMissing},
		{abc(), trip(math.MaxInt, math.MinInt, 0), api.ErrMissing},
		{abc(), trip(1, 0, -1), api.ErrRange},
		{abc(), trip(1, 0, 604801), api.ErrRange},
		{abc(), trip(1, 0, 0), api.ErrNone},
		{abc(), trip(2, 1, 604800), api.ErrNone},
	} {
		what := fmt.Sprint(" of ", x.t)
		fails(t, "Estimate"+what, x.e)(street.Estimate(x.n, x.t))
		fails(t, "Fastest"+what, x.e)(street.Fastest(x.n, x.t, false))
		fails(t, "Fastest at the latest"+what, x.e)(street.Fastest(x.n, x.t, true))
		fails(t, "LatestFor"+what, x.e)(street.LatestFor(x.n, x.t))
		if x.e == api.ErrNone {
			fails(t, "Detour"+what, api.ErrClash)(street.Detour(x.n, x.t, nil))
			continue
		}
		fails(t, "Detour"+what, x.e)(street.Detour(x.n, x.t, []int{9}))
		fails(t, "CheckLabels"+what, x.e)(street.CheckLabels(x.n, x.t, api.StreetLabels{}))
	}
}

// TestLabels is of P3.4.
func TestLabels(t *testing.T) {
	soon, late := []int{0, 100, 160}, []int{0, 200, 290}
	for _, x := range []struct {
		t     api.StreetTrip
		l     api.StreetLabels
		bound api.Range
	}{
		{trip(0, 2, 0), labels(soon, late), span(160, 290)},
		{trip(0, 1, 0), labels(soon, late), span(100, 200)},
		{trip(0, 0, 0), labels(soon, late), span(0, 0)},
		{trip(0, 2, 7), labels(soon, late), span(160, 290)}, // small enough, though begun later
		{trip(0, 2, 0), labels([]int{0, 0, 0}, []int{0, 0, 0}), span(0, 0)},
		{trip(0, 2, 0), labels([]int{0, 100, 159}, []int{0, 199, 3}), span(159, 3)},
		{trip(0, 2, 3600), labels([]int{3600, 4300, 4360}, []int{3599, 4399, 0}), span(4360, 0)},
		{trip(1, 2, 604800), labels([]int{-1, 604800, 604860}, []int{-1, 604800, 604890}), span(604860, 604890)},
		{trip(0, 2, 5), labels([]int{5, 106, 165}, []int{0, 0, 0}), span(165, 0)}, // 100.83 seconds are 101
		// A label of a place that cannot be reached may be there, if it goes with the others.
		{trip(1, 2, 0), labels([]int{10, 0, 60}, []int{-1, 0, 90}), span(60, 90)},
		{trip(2, 0, 0), labels([]int{api.MaxNumber, 0, 0}, []int{5, 0, 0}), span(api.MaxNumber, 5)},
	} {
		gives(t, fmt.Sprint("CheckLabels ", x.l, " for ", x.t), x.bound)(street.CheckLabels(abc(), x.t, x.l))
	}
	for _, x := range []struct {
		t api.StreetTrip
		l api.StreetLabels
		e api.Errno
	}{
		{trip(0, 2, 0), labels(nil, late), api.ErrShape},
		{trip(0, 2, 0), labels(soon, nil), api.ErrShape},
		{trip(0, 2, 0), labels([]int{-2, 0}, late), api.ErrShape},
		{trip(0, 2, 0), labels([]int{-2, 0, 0}, []int{0, 0, 0, 0}), api.ErrShape},
		{trip(0, 2, 0), labels([]int{0, 0, -2}, late), api.ErrRange},
		{trip(0, 2, 0), labels([]int{-1, 0, 0}, []int{0, -2, 0}), api.ErrRange},
		{trip(2, 2, 0), labels([]int{api.MaxNumber + 1, 0, 0}, late), api.ErrRange},
		{trip(0, 2, 0), labels(soon, []int{0, math.MaxInt, 0}), api.ErrRange},
		{trip(0, 2, 0), labels(soon, []int{0, 0, math.MinInt}), api.ErrRange},
		{trip(0, 2, 0), labels([]int{1, 100, 160}, late), api.ErrProof},             // begun behind the trip
		{trip(0, 2, 0), labels(soon, []int{1, 200, 290}), api.ErrProof},             // so is Late
		{trip(0, 2, 0), labels([]int{-1, 100, 160}, late), api.ErrProof},            // no label of From
		{trip(0, 2, 0), labels(soon, []int{-1, -1, -1}), api.ErrProof},              // not even one
		{trip(0, 2, 0), labels([]int{0, 101, 160}, late), api.ErrProof},             // a second too late at b
		{trip(0, 2, 0), labels(soon, []int{0, 201, 290}), api.ErrProof},             // so is Late
		{trip(0, 2, 0), labels([]int{0, 100, 161}, late), api.ErrProof},             // at c
		{trip(0, 2, 0), labels(soon, []int{0, 200, 291}), api.ErrProof},             // so is Late
		{trip(0, 2, 0), labels([]int{0, 100, 200}, late), api.ErrProof},             // Late's times are not for Soon
		{trip(0, 2, 0), labels([]int{0, -1, 160}, late), api.ErrProof},              // a road leads to b
		{trip(0, 2, 0), labels(soon, []int{0, 200, -1}), api.ErrProof},              // and to c
		{trip(0, 0, 0), labels([]int{0, 100, -1}, late), api.ErrProof},              // wherever one goes
		{trip(1, 2, 0), labels([]int{10, 0, 60}, []int{10, 300, 90}), api.ErrProof}, // also from b
		{trip(0, 2, 5), labels([]int{5, 107, 165}, []int{0, 0, 0}), api.ErrProof},   // 100.83 seconds are no 102
		{trip(2, 0, 0), labels([]int{-1, 0, 0}, []int{0, 0, 0}), api.ErrNone},
		{trip(2, 0, 0), labels([]int{0, 0, 0}, []int{-1, -1, 0}), api.ErrNone},
		{trip(2, 1, 0), labels([]int{-1, -1, 0}, []int{-1, -1, 0}), api.ErrNone},
	} {
		fails(t, fmt.Sprint("CheckLabels ", x.l, " for ", x.t), x.e)(street.CheckLabels(abc(), x.t, x.l))
	}
	fails(t, "CheckLabels in a wrong net", api.ErrName)(street.CheckLabels(nameless(), trip(-1, 0, 0), api.StreetLabels{}))
	fails(t, "CheckLabels of no trip", api.ErrRange)(street.CheckLabels(abc(), trip(0, 0, -1), api.StreetLabels{}))
}

// slowProof tells whether labels of a list prove for a trip that nobody arrives earlier.
func slowProof(n api.StreetNet, x api.StreetTrip, list []int, end func(api.Range) int) bool {
	if list[x.From] < 0 || list[x.From] > x.At {
		return false
	}
	for _, road := range n.Roads {
		begin, label := list[road.From], list[road.To]
		if begin >= 0 && (label < 0 || label > begin+end(slowTakes(road.Points, begin))) {
			return false
		}
	}
	return true
}

func lo(r api.Range) int { return r.Lo }

func hi(r api.Range) int { return r.Hi }

// changed returns a list in which a few numbers are changed.
func changed(r *rand.Rand, list []int) []int {
	list = slices.Clone(list)
	for range r.Intn(3) {
		i := r.Intn(len(list))
		list[i] = []int{-1, 0, list[i] - 1, list[i] + 1, list[i] - r.Intn(100), r.Intn(1000)}[r.Intn(6)]
		list[i] = max(list[i], -1)
	}
	return list
}

// TestProved is of P3.4 and P3.11.
func TestProved(t *testing.T) {
	r := rand.New(rand.NewSource(311))
	accepted, refused := 0, 0
	for range 2000 {
		n := anyNet(r)
		x := anyTrip(r, n)
		l := slowEarliest(n, x.From, x.At)
		gives(t, fmt.Sprint("Earliest for ", x, " of ", text(n)), l)(street.Earliest(n, x.From, x.At))
		if l.Soon[x.To] >= 0 {
			gives(t, fmt.Sprint("CheckLabels ", l, " for ", x, " of ", text(n)), span(l.Soon[x.To], l.Late[x.To]))(street.CheckLabels(n, x, l))
		}
		other := labels(changed(r, l.Soon), changed(r, l.Late))
		what := fmt.Sprint("CheckLabels ", other, " for ", x, " of ", text(n))
		switch {
		case !slowProof(n, x, other.Soon, lo) || !slowProof(n, x, other.Late, hi):
			refused++
			fails(t, what, api.ErrProof)(street.CheckLabels(n, x, other))
		case other.Soon[x.To] < 0 || other.Late[x.To] < 0:
			fails(t, what, api.ErrNone)(street.CheckLabels(n, x, other))
		default:
			accepted++
			bound, e := street.CheckLabels(n, x, other)
			gives(t, what, span(other.Soon[x.To], other.Late[x.To]))(bound, e)
			for range 10 {
				w := anyWay(r, n, x.From, 10)
				if a, e := street.ArrivalOf(n, w, x.At); e != api.OK || endOf(n, x.From, w) == x.To && (a.Lo < bound.Lo || a.Hi < bound.Hi) {
					t.Errorf("%s, but the way %v arrives at %v", what, w, a)
				}
			}
		}
	}
	if accepted < 200 || refused < 200 {
		t.Error("too few labels were tried:", accepted, refused)
	}
}

// TestFastest is of P3.4 and P3.11.
func TestFastest(t *testing.T) {
	gives(t, "Fastest", []int{0, 1})(street.Fastest(abc(), trip(0, 2, 0), false))
	gives(t, "Fastest at the latest", []int{0, 1})(street.Fastest(abc(), trip(0, 2, 0), true))
	gives(t, "Fastest to the place itself", []int{})(street.Fastest(abc(), trip(1, 1, 0), true))
	one := net(3, road("straight", 0, 2, 9, point(0, 100, 300)), road("r", 0, 1, 1, point(0, 10, 200)), road("s", 1, 2, 1, point(0, 10, 200)))
	gives(t, "Fastest round", []int{1, 2})(street.Fastest(one, trip(0, 2, 0), false))
	gives(t, "Fastest straight", []int{0})(street.Fastest(one, trip(0, 2, 0), true))
	r := rand.New(rand.NewSource(34))
	for i := range 1000 {
		n := anyNet(r)
		x := anyTrip(r, n)
		late, end := i%2 == 0, lo
		if late {
			end = hi
		}
		w, e := street.Fastest(n, x, late)
		best, f := street.Estimate(n, x)
		if e != api.OK || f != api.OK {
			fails(t, "Fastest", api.ErrNone)(w, e)
			fails(t, "Estimate", api.ErrNone)(best, f)
			continue
		}
		a, e := street.ArrivalOf(n, w, x.At)
		if e != api.OK || end(a) != end(best) || endOf(n, x.From, w) != x.To || len(w) > 0 && n.Roads[w[0]].From != x.From {
			t.Errorf("Fastest for %v, %t, of %s: %v arrives at %v, error %d; want %v", x, late, text(n), w, a, e, best)
		}
	}
}

// driven returns the net in which each road takes, at each of its points, some time between its ends.
func driven(r *rand.Rand, n api.StreetNet) api.StreetNet {
	roads := slices.Clone(n.Roads)
	for i := range roads {
		roads[i].Points = slices.Clone(roads[i].Points)
		for j, p := range roads[i].Points {
			takes := p.Takes.Lo + r.Intn(p.Takes.Hi-p.Takes.Lo+1)
			roads[i].Points[j].Takes = span(takes, takes)
		}
		for raised(roads[i].Points) {
		}
	}
	n.Roads = roads
	return n
}

// TestDrives is of P3.11: however long each road takes between its ends, if nobody overtakes, the earliest arrival lies in Estimate.
func TestDrives(t *testing.T) {
	r := rand.New(rand.NewSource(3110))
	inside := 0
	for range 1000 {
		n := anyNet(r)
		x := anyTrip(r, n)
		best, e := street.Estimate(n, x)
		if e != api.OK {
			continue
		}
		arrival, e := street.Estimate(driven(r, n), x)
		if e != api.OK || arrival.Lo != arrival.Hi || arrival.Lo < best.Lo || arrival.Hi > best.Hi {
			t.Errorf("%v of %s: one arrives at %v, error %d, and Estimate is %v", x, text(n), arrival, e, best)
		}
		if best.Lo < arrival.Lo && arrival.Hi < best.Hi {
			inside++
		}
	}
	if inside < 100 {
		t.Error("too few arrivals were between the ends:", inside)
	}
}

// TestLatestFor is of P3.5.
func TestLatestFor(t *testing.T) {
	for _, x := range []struct {
		t      api.StreetTrip
		latest int
	}{
		{trip(0, 2, 290), 0}, {trip(0, 2, 291), 0}, {trip(0, 2, 292), 1}, {trip(0, 1, 200), 0}, {trip(0, 1, 604800), 604598},
		{trip(1, 2, 90), 0}, {trip(1, 2, 91), 1}, {trip(1, 2, 604800), 604710}, {trip(2, 2, 0), 0}, {trip(2, 2, 604800), 604800}, {trip(0, 0, 77), 77},
	} {
		gives(t, fmt.Sprint("LatestFor ", x.t), x.latest)(street.LatestFor(abc(), x.t))
	}
	fails(t, "LatestFor an arrival that is too early", api.ErrNone)(street.LatestFor(abc(), trip(0, 2, 289)))
	fails(t, "LatestFor an arrival at once", api.ErrNone)(street.LatestFor(abc(), trip(0, 1, 0)))
	fails(t, "LatestFor no way", api.ErrNone)(street.LatestFor(abc(), trip(2, 0, 604800)))
	free := net(2, even("r", 0, 1, 0))
	gives(t, "LatestFor a road that takes nothing", 604800)(street.LatestFor(free, trip(0, 1, 604800)))
	gives(t, "LatestFor a road that takes nothing, at 0", 0)(street.LatestFor(free, trip(0, 1, 0)))
	// All who set out between the two points arrive together, at 190 at the latest.
	together := net(2, road("r", 0, 1, 0, point(100, 60, 90), point(150, 10, 40)))
	gives(t, "LatestFor those who arrive together", 150)(street.LatestFor(together, trip(0, 1, 190)))
}

// TestTheLatest is of P3.5 and P3.13.
func TestTheLatest(t *testing.T) {
	r := rand.New(rand.NewSource(313))
	found, none := 0, 0
	for range 1000 {
		n := anyNet(r)
		x := anyTrip(r, n)
		if r.Intn(2) == 0 {
			x.At %= 3000
		}
		arrival := func(at int) (int, api.Errno) {
			a, e := street.Estimate(n, trip(x.From, x.To, at))
			return a.Hi, e
		}
		at, e := street.LatestFor(n, x)
		what := fmt.Sprint("LatestFor ", x, " of ", text(n))
		if e != api.OK {
			none++
			fails(t, what, api.ErrNone)(at, e)
			if first, e := arrival(0); e == api.OK && first <= x.At {
				t.Errorf("%s is none, but from 0 one arrives at %d", what, first)
			}
			continue
		}
		found++
		if a, e := arrival(at); e != api.OK || a > x.At {
			t.Errorf("%s is %d, from where one arrives at %d, error %d", what, at, a, e)
		}
		if a, e := arrival(at + 1); at < api.MaxStreetTime && (e != api.OK || a <= x.At) {
			t.Errorf("%s is %d, but a second later one arrives at %d, error %d", what, at, a, e)
		}
	}
	if found < 200 || none < 100 {
		t.Error("too few trips were tried:", found, none)
	}
}

// TestDetour is of P3.4.
func TestDetour(t *testing.T) {
	longer := net(3, road("straight", 0, 2, 9, point(0, 100, 300)), road("r", 0, 1, 1, point(0, 10, 200)), road("s", 1, 2, 1, point(0, 10, 200)),
		road("t", 0, 2, 9, point(0, 400, 450)))
	for _, x := range []struct {
		n      api.StreetNet
		t      api.StreetTrip
		way    []int
		detour api.Range
	}{
		{abc(), trip(0, 2, 0), []int{2}, span(610, 740)},
		{abc(), trip(0, 2, 0), []int{0, 1}, span(0, 130)},
		{abc(), trip(0, 2, 3600), []int{2}, span(10, 140)},
		{abc(), trip(1, 1, 5), nil, span(0, 0)},
		{abc(), trip(1, 2, 604800), []int{1}, span(0, 30)},
		{longer, trip(0, 2, 0), []int{0}, span(0, 280)},
		{longer, trip(0, 2, 0), []int{1, 2}, span(0, 380)},
		{longer, trip(0, 2, 0), []int{3}, span(100, 430)},
		{ring(), trip(0, 0, 0), []int{0, 1}, span(7203, 7203)},
		{ring(), trip(1, 0, 9), []int{1, 0, 1}, span(7203, 7203)},
	} {
		gives(t, fmt.Sprint("Detour ", x.way, " of ", x.t), x.detour)(street.Detour(x.n, x.t, x.way))
	}
	for _, x := range []struct {
		t   api.StreetTrip
		way []int
		e   api.Errno
	}{
		{trip(0, 2, 0), nil, api.ErrClash},
		{trip(0, 2, 0), []int{0}, api.ErrClash},
		{trip(0, 2, 0), []int{1}, api.ErrClash},
		{trip(0, 1, 0), []int{1}, api.ErrClash},
		{trip(0, 0, 0), []int{0}, api.ErrClash},
		{trip(2, 0, 0), []int{0, 1}, api.ErrClash},
		{trip(0, 2, 0), []int{9}, api.ErrMissing},
		{trip(0, 2, 0), []int{1, 0}, api.ErrOpen},
		{trip(0, 2, -1), []int{9}, api.ErrRange},
		{trip(0, 3, 0), []int{1, 0}, api.ErrMissing},
	} {
		fails(t, fmt.Sprint("Detour ", x.way, " of ", x.t), x.e)(street.Detour(abc(), x.t, x.way))
	}
	fails(t, "Detour of too many roads", api.ErrLarge)(street.Detour(ring(), trip(0, 0, 0), rounds(201)))
	fails(t, "Detour in a wrong net", api.ErrName)(street.Detour(nameless(), trip(0, 0, -1), []int{9}))
}

// TestDetours is of P3.4.
func TestDetours(t *testing.T) {
	r := rand.New(rand.NewSource(340))
	for range 1000 {
		n := anyNet(r)
		x := anyTrip(r, n)
		w := anyWay(r, n, x.From, 6)
		x.To = endOf(n, x.From, w)
		l, a := slowEarliest(n, x.From, x.At), slowArrival(n, w, x.At)
		wanted := span(max(0, a.Lo-l.Late[x.To]), max(0, a.Hi-l.Soon[x.To]))
		gives(t, fmt.Sprint("Detour ", w, " of ", x, " of ", text(n)), wanted)(street.Detour(n, x, w))
	}
}
