package street_test

import (
	"fmt"
	"math"
	"math/rand"
	"strings"
	"testing"

	"fiacre/api"
	"fiacre/street"
)

type change func(n *api.StreetNet)

func mark(road, point int) api.StreetMark { return api.StreetMark{Road: road, Point: point} }

func checkNets(t *testing.T, make func() api.StreetNet, cases []struct {
	what   string
	change change
	mark   api.StreetMark
	e      api.Errno
}) {
	t.Helper()
	for _, x := range cases {
		n := make()
		x.change(&n)
		if m, e := street.CheckNet(n); m != x.mark || e != x.e {
			t.Errorf("CheckNet, %s: %v, error %d; want %v, error %d", x.what, m, e, x.mark, x.e)
		}
	}
}

func setPlaces(places ...string) change { return func(n *api.StreetNet) { n.Places = places } }

// many sets so many places, and roads between the first two.
func many(places, roads int) change {
	return func(n *api.StreetNet) {
		*n = net(places)
		for i := range roads {
			n.Roads = append(n.Roads, even(fmt.Sprint("r", i), i%2, 1-i%2, i))
		}
	}
}

func all(changes ...change) change {
	return func(n *api.StreetNet) {
		for _, c := range changes {
			c(n)
		}
	}
}

// TestPlaces is of P3.1.
func TestPlaces(t *testing.T) {
	checkNets(t, abc, []struct {
		what   string
		change change
		mark   api.StreetMark
		e      api.Errno
	}{
		{"as it is", all(), mark(0, 0), api.OK},
		{"one place alone", many(1, 0), mark(0, 0), api.OK},
		{"no places", setPlaces(), mark(0, 0), api.ErrShape},
		{"no places and too many roads", all(many(3, 61), setPlaces()), mark(0, 0), api.ErrShape},
		{"20 places", many(20, 2), mark(0, 0), api.OK},
		{"21 places", many(21, 2), mark(0, 0), api.ErrLarge},
		{"21 places without names", setPlaces(strings.Split(strings.Repeat(",", 20), ",")...), mark(0, 0), api.ErrLarge},
		{"no name", setPlaces("a", "b", ""), mark(2, 0), api.ErrName},
		{"a name with a digit first", setPlaces("a", "1", "c"), mark(1, 0), api.ErrName},
		{"a name with a blank", setPlaces("a ", "b", "c"), mark(0, 0), api.ErrName},
		{"a name of 12", setPlaces("a", "b", "c-2345678901"), mark(0, 0), api.OK},
		{"a name of 13", setPlaces("a", "b", "c-23456789012"), mark(2, 0), api.ErrName},
		{"a name twice", setPlaces("a", "b", "a"), mark(2, 0), api.ErrExists},
		{"a capital letter", setPlaces("a", "b", "A"), mark(0, 0), api.OK},
		{"a name twice ahead of none", setPlaces("a", "a", ""), mark(1, 0), api.ErrExists},
		{"no name ahead of a name twice", setPlaces("a", "", "a"), mark(1, 0), api.ErrName},
		{"60 roads", many(2, 60), mark(0, 0), api.OK},
		{"61 roads", many(2, 61), mark(0, 0), api.ErrLarge},
		{"61 roads, one wrong", all(many(2, 61), func(n *api.StreetNet) { n.Roads[3].Name = "" }), mark(0, 0), api.ErrLarge},
		{"61 roads behind no name", all(many(2, 61), setPlaces("a", "")), mark(1, 0), api.ErrName},
		{"no roads", func(n *api.StreetNet) { n.Roads = nil }, mark(0, 0), api.OK},
	})
}

// TestRoads is of P3.1.
func TestRoads(t *testing.T) {
	at := func(i int, change func(x *api.StreetRoad)) change {
		return func(n *api.StreetNet) { change(&n.Roads[i]) }
	}
	name := func(i int, s string) change { return at(i, func(x *api.StreetRoad) { x.Name = s }) }
	ends := func(from, to int) change { return at(1, func(x *api.StreetRoad) { x.From, x.To = from, to }) }
	metres := func(m int) change { return at(1, func(x *api.StreetRoad) { x.Metres = m }) }
	points := func(l ...api.StreetPoint) change { return at(1, func(x *api.StreetRoad) { x.Points = l }) }
	var eight []api.StreetPoint
	for i := range 8 {
		eight = append(eight, point(i, 5, 5))
	}
	checkNets(t, abc, []struct {
		what   string
		change change
		mark   api.StreetMark
		e      api.Errno
	}{
		{"no name", name(2, "-x"), mark(2, 0), api.ErrName},
		{"a name twice", name(2, "x"), mark(2, 0), api.ErrExists},
		{"the name of a place", name(2, "a"), mark(0, 0), api.OK},
		{"no name, and no place", all(ends(3, 3), name(1, "")), mark(1, 0), api.ErrName},
		{"a name twice, and no place", all(ends(3, 3), name(1, "x")), mark(1, 0), api.ErrExists},
		{"no place to begin", ends(3, 1), mark(1, 0), api.ErrMissing},
		{"no place to end", ends(1, 3), mark(1, 0), api.ErrMissing},
		{"below all places", ends(-1, 1), mark(1, 0), api.ErrMissing},
		{"far below all places", ends(1, math.MinInt), mark(1, 0), api.ErrMissing},
		{"twice no place", ends(3, 3), mark(1, 0), api.ErrMissing},
		{"twice a place", ends(1, 1), mark(1, 0), api.ErrDouble},
		{"twice a place, wrong metres", all(ends(0, 0), metres(-1)), mark(1, 0), api.ErrDouble},
		{"another road alongside", ends(0, 1), mark(0, 0), api.OK},
		{"the other way round", ends(1, 0), mark(0, 0), api.OK},
		{"no metres", metres(0), mark(0, 0), api.OK},
		{"metres below 0", metres(-1), mark(1, 0), api.ErrRange},
		{"100000 metres", metres(100000), mark(0, 0), api.OK},
		{"100001 metres", metres(100001), mark(1, 0), api.ErrRange},
		{"no points", points(), mark(1, 0), api.ErrShape},
		{"no points and wrong metres", all(points(), metres(-1)), mark(1, 0), api.ErrRange},
		{"8 points", points(eight...), mark(0, 0), api.OK},
		{"9 points", points(append(eight, point(8, 5, 5))...), mark(1, 0), api.ErrLarge},
		{"9 points, one wrong", points(append(eight, point(-1, 9, 5))...), mark(1, 0), api.ErrLarge},
		{"the first wrong one", all(metres(-1), name(2, "")), mark(1, 0), api.ErrRange},
		{"points that are not in order, ahead of a road without a name", all(points(point(0, 9, 9), point(1, 7, 7)), name(2, "")), mark(1, 0), api.ErrOpen},
	})
}

// TestPoints is of P3.1.
func TestPoints(t *testing.T) {
	points := func(l ...api.StreetPoint) change { return func(n *api.StreetNet) { n.Roads[2].Points = l } }
	checkNets(t, abc, []struct {
		what   string
		change change
		mark   api.StreetMark
		e      api.Errno
	}{
		{"the least of all", points(point(0, 0, 0)), mark(0, 0), api.OK},
		{"from the most to the least in a second", points(point(0, 0, 7200), point(86399, 7200, 7200)), mark(2, 1), api.ErrOpen},
		{"the most of all", points(point(86399, 7200, 7200)), mark(0, 0), api.OK},
		{"a time below 0", points(point(-1, 1, 2)), mark(2, 0), api.ErrRange},
		{"a time behind the day", points(point(0, 1, 2), point(86400, 1, 2)), mark(2, 1), api.ErrRange},
		{"less than nothing", points(point(5, -1, 2)), mark(2, 0), api.ErrRange},
		{"less than nothing at most", points(point(5, -2, -1)), mark(2, 0), api.ErrRange},
		{"more than 7200", points(point(5, 1, 7201)), mark(2, 0), api.ErrRange},
		{"more than 7200 at least", points(point(5, 7201, 7200)), mark(2, 0), api.ErrRange},
		{"7200", points(point(5, 0, 7200)), mark(0, 0), api.OK},
		{"ends the wrong way round", points(point(1, 5, 5), point(2, 6, 5)), mark(2, 1), api.ErrOrder},
		{"below 0 the wrong way round", points(point(1, 5, -1)), mark(2, 0), api.ErrRange},
		{"twice a time", points(point(1, 5, 5), point(2, 5, 5), point(2, 5, 5)), mark(2, 2), api.ErrOrder},
		{"times that fall", points(point(2, 5, 5), point(1, 5, 5)), mark(2, 1), api.ErrOrder},
		{"the ends ahead of the next time", points(point(1, 6, 5), point(-2, 5, 5)), mark(2, 0), api.ErrOrder},
		{"a wrong point behind two that are not in order", points(point(0, 9, 9), point(1, 7, 7), point(2, 7, 7201)), mark(2, 2), api.ErrRange},
		{"the document's third point", points(point(0, 100, 200), point(3600, 700, 800), point(3700, 600, 800)), mark(0, 0), api.OK},
		{"one less", points(point(0, 100, 200), point(3600, 700, 800), point(3700, 599, 800)), mark(2, 1), api.ErrOpen},
		{"the greater end", points(point(0, 100, 200), point(3600, 500, 800), point(3700, 500, 700)), mark(0, 0), api.OK},
		{"the greater end, one less", points(point(0, 100, 200), point(3600, 500, 800), point(3700, 500, 699)), mark(2, 1), api.ErrOpen},
		{"the first of two", points(point(0, 50, 50), point(1, 40, 40), point(2, 30, 30)), mark(2, 0), api.ErrOpen},
		{"across midnight", points(point(0, 9, 9), point(86399, 10, 10)), mark(0, 0), api.OK},
		{"across midnight, one less", points(point(0, 8, 10), point(86399, 10, 10)), mark(2, 1), api.ErrOpen},
		{"across midnight, the greater end", points(point(0, 8, 8), point(86399, 8, 10)), mark(2, 1), api.ErrOpen},
		{"8400 seconds across midnight", points(point(2000, 0, 0), point(50000, 0, 0), point(80000, 7200, 7200)), mark(0, 0), api.OK},
		{"100 seconds across midnight", points(point(40, 0, 100), point(50000, 0, 0), point(86340, 100, 200)), mark(0, 0), api.OK},
		{"99 seconds across midnight", points(point(39, 0, 100), point(50000, 0, 0), point(86340, 100, 200)), mark(2, 2), api.ErrOpen},
		{"as steep as it likes upwards", points(point(0, 0, 0), point(1, 7200, 7200)), mark(0, 0), api.OK},
	})
	if m, e := street.CheckNet(abc()); m != mark(0, 0) || e != api.OK {
		t.Errorf("CheckNet of the document's net: %v, error %d", m, e)
	}
}

// TestTakes is of P3.1.
func TestTakes(t *testing.T) {
	n := abc()
	n.Roads[1].Points = []api.StreetPoint{point(2000, 84, 168), point(80000, 0, 0)}
	n.Roads[2].Points = []api.StreetPoint{point(40, 100, 100), point(50, 95, 99)}
	for _, x := range []struct {
		road, at int
		takes    api.Range
	}{
		{0, 0, span(100, 200)}, {0, 60, span(110, 210)}, {0, 61, span(111, 211)}, {0, 1800, span(400, 500)}, {0, 3600, span(700, 800)},
		{0, 3599, span(700, 800)}, {0, 45000, span(400, 500)}, {0, 86399, span(101, 201)}, {0, 86400, span(100, 200)}, {0, 86461, span(111, 211)},
		{0, 604800, span(100, 200)}, {0, 604799, span(101, 201)},
		{1, 80000, span(0, 0)}, {1, 80100, span(1, 2)}, {1, 80101, span(2, 3)}, {1, 86400, span(64, 128)}, {1, 0, span(64, 128)}, {1, 1, span(65, 129)}, {1, 1999, span(84, 168)},
		{1, 2000, span(84, 168)}, {1, 41000, span(42, 84)},
		{2, 41, span(100, 100)}, {2, 43, span(99, 100)}, {2, 44, span(98, 100)}, {2, 49, span(96, 100)}, {2, 50, span(95, 99)}, {2, 51, span(96, 100)},
		{2, 39, span(100, 100)},
	} {
		gives(t, fmt.Sprint("Takes ", x.road, " at ", x.at), x.takes)(street.Takes(n, x.road, x.at))
	}
	one := net(2, road("r", 0, 1, 5, point(500, 3, 7)))
	for _, at := range []int{0, 499, 500, 501, 86399, 86400, 604800} {
		gives(t, "Takes of one point", span(3, 7))(street.Takes(one, 0, at))
	}
	fails(t, "Takes of a wrong net", api.ErrName)(street.Takes(nameless(), 3, -1))
	fails(t, "Takes of no road", api.ErrMissing)(street.Takes(n, 3, -1))
	fails(t, "Takes below all roads", api.ErrMissing)(street.Takes(n, -1, 0))
	fails(t, "Takes ahead of all times", api.ErrRange)(street.Takes(n, 2, -1))
	fails(t, "Takes behind all times", api.ErrRange)(street.Takes(n, 2, 604801))
	fails(t, "Takes far behind all times", api.ErrRange)(street.Takes(n, 2, math.MaxInt))
}

// TestTakesByTheLine is of P3.1.
func TestTakesByTheLine(t *testing.T) {
	r := rand.New(rand.NewSource(31))
	for range 2000 {
		n := net(2, road("r", 0, 1, 5, anyPoints(r)...))
		at := anyTime(r, n)
		gives(t, fmt.Sprint("Takes at ", at, " of ", text(n)), slowTakes(n.Roads[0].Points, at))(street.Takes(n, 0, at))
		if later := at + api.Day; later <= api.MaxStreetTime {
			gives(t, fmt.Sprint("Takes a day later than ", at, " of ", text(n)), slowTakes(n.Roads[0].Points, at))(street.Takes(n, 0, later))
		}
	}
}

// TestWithout is of P3.8.
func TestWithout(t *testing.T) {
	for road, wanted := range []string{
		"place a;place b;place c;road y b c 500;time 0 60 90;road z a c 2000;time 0 900 900;",
		"place a;place b;place c;road x a b 1000;time 0 100 200;time 3600 700 800;road z a c 2000;time 0 900 900;",
		"place a;place b;place c;road x a b 1000;time 0 100 200;time 3600 700 800;road y b c 500;time 0 60 90;",
	} {
		n, e := street.Without(abc(), road)
		gives(t, fmt.Sprint("Without ", road), wanted)(text(n), e)
	}
	gives(t, "Without the only road", net(2))(street.Without(net(2, even("r", 0, 1, 5)), 0))
	fails(t, "Without no road", api.ErrMissing)(street.Without(abc(), 3))
	fails(t, "Without below all roads", api.ErrMissing)(street.Without(abc(), -1))
	fails(t, "Without of no roads", api.ErrMissing)(street.Without(net(2), 0))
	fails(t, "Without of a wrong net", api.ErrName)(street.Without(nameless(), 3))
}
