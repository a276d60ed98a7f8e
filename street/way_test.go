package street_test

import (
	"fmt"
	"math"
	"math/rand"
	"strings"
	"testing"

	"fiacre/api"
	"fiacre/street"
)

// rounds returns so many roads of the ring, to and fro.
func rounds(roads int) []int {
	w := make([]int, roads)
	for i := range w {
		w[i] = i % 2
	}
	return w
}

// TestWays is of P3.2.
func TestWays(t *testing.T) {
	wrong := append(rounds(200), 9)
	for _, x := range []struct {
		n      api.StreetNet
		way    []int
		number int
		e      api.Errno
	}{
		{abc(), nil, 0, api.OK},
		{abc(), []int{0, 1}, 0, api.OK},
		{abc(), []int{2}, 0, api.OK},
		{abc(), []int{1, 0}, 1, api.ErrOpen},
		{abc(), []int{0, 0}, 1, api.ErrOpen},
		{abc(), []int{0, 1, 2}, 2, api.ErrOpen},
		{abc(), []int{0, 2, 9}, 1, api.ErrOpen},
		{abc(), []int{0, 9, 2}, 1, api.ErrMissing},
		{abc(), []int{3}, 0, api.ErrMissing},
		{abc(), []int{-1, 5}, 0, api.ErrMissing},
		{abc(), []int{0, 1, math.MaxInt}, 2, api.ErrMissing},
		{net(1), []int{0}, 0, api.ErrMissing},
		{net(1), nil, 0, api.OK},
		{ring(), rounds(200), 0, api.OK},
		{ring(), rounds(201), 0, api.ErrLarge},
		{ring(), wrong, 0, api.ErrLarge},
		{ring(), wrong[1:], 199, api.ErrMissing},
		{nameless(), []int{0, 9}, 0, api.ErrName},
		{nameless(), wrong, 0, api.ErrName},
	} {
		if number, e := street.CheckWay(x.n, x.way); number != x.number || e != x.e {
			t.Errorf("CheckWay of %v: %d, error %d; want %d, error %d", x.way, number, e, x.number, x.e)
		}
	}
}

// TestArrivals is of P3.2.
func TestArrivals(t *testing.T) {
	for _, x := range []struct {
		n       api.StreetNet
		way     []int
		at      int
		arrival api.Range
		metres  int
	}{
		{abc(), nil, 77, span(77, 77), 0},
		{abc(), []int{0}, 0, span(100, 200), 1000},
		{abc(), []int{0, 1}, 0, span(160, 290), 1500},
		{abc(), []int{0, 1}, 3600, span(4360, 4490), 1500},
		{abc(), []int{0, 1}, 1, span(162, 292), 1500},
		{abc(), []int{0, 1}, 86400, span(86560, 86690), 1500},
		{abc(), []int{2}, 0, span(900, 900), 2000},
		{abc(), []int{0, 1}, 604800, span(604960, 605090), 1500},
		{ring(), rounds(200), 604800, span(604800+720300, 604800+720300), 720300},
		// Both ends go on by themselves: the lesser one is at the second road at 10, the greater one at 20.
		{net(3, road("r", 0, 1, 7, point(0, 10, 20)), road("s", 1, 2, 0, point(10, 5, 5), point(20, 105, 205))), []int{0, 1}, 0, span(15, 225), 7},
	} {
		gives(t, fmt.Sprint("ArrivalOf ", x.way, " at ", x.at), x.arrival)(street.ArrivalOf(x.n, x.way, x.at))
		gives(t, fmt.Sprint("MetresOf ", x.way), x.metres)(street.MetresOf(x.n, x.way))
	}
	fails(t, "ArrivalOf in a wrong net", api.ErrName)(street.ArrivalOf(nameless(), []int{9}, -1))
	fails(t, "ArrivalOf no road", api.ErrMissing)(street.ArrivalOf(abc(), []int{9}, -1))
	fails(t, "ArrivalOf no way", api.ErrOpen)(street.ArrivalOf(abc(), []int{1, 0}, -1))
	fails(t, "ArrivalOf too many roads", api.ErrLarge)(street.ArrivalOf(ring(), rounds(201), -1))
	fails(t, "ArrivalOf ahead of all times", api.ErrRange)(street.ArrivalOf(abc(), []int{0, 1}, -1))
	fails(t, "ArrivalOf behind all times", api.ErrRange)(street.ArrivalOf(abc(), nil, 604801))
	fails(t, "MetresOf in a wrong net", api.ErrName)(street.MetresOf(nameless(), []int{9}))
	fails(t, "MetresOf no road", api.ErrMissing)(street.MetresOf(abc(), []int{9}))
	fails(t, "MetresOf no way", api.ErrOpen)(street.MetresOf(abc(), []int{0, 0}))
	fails(t, "MetresOf too many roads", api.ErrLarge)(street.MetresOf(ring(), rounds(201)))
}

// TestArrivalsRoadByRoad is of P3.2.
func TestArrivalsRoadByRoad(t *testing.T) {
	r := rand.New(rand.NewSource(32))
	for range 1000 {
		n := anyNet(r)
		x := anyTrip(r, n)
		w := anyWay(r, n, x.From, 12)
		gives(t, fmt.Sprint("ArrivalOf ", w, " at ", x.At, " of ", text(n)), slowArrival(n, w, x.At))(street.ArrivalOf(n, w, x.At))
		gives(t, fmt.Sprint("MetresOf ", w, " of ", text(n)), slowMetres(n, w))(street.MetresOf(n, w))
	}
}

// TestTextsOfWays is of P3.9 and P3.14.
func TestTextsOfWays(t *testing.T) {
	for _, x := range []struct {
		n    api.StreetNet
		way  []int
		text string
	}{
		{abc(), nil, ""}, {abc(), []int{0, 1}, "x y"}, {abc(), []int{2}, "z"}, {net(1), nil, ""},
		{ring(), rounds(200), strings.TrimSpace(strings.Repeat("to fro ", 100))},
		{ring(), []int{1, 0, 1}, "fro to fro"},
	} {
		gives(t, fmt.Sprint("FormatWay of ", x.way), x.text)(street.FormatWay(x.n, x.way))
		gives(t, "ParseWay of "+x.text, x.way)(street.ParseWay(x.n, x.text))
	}
	fails(t, "FormatWay in a wrong net", api.ErrName)(street.FormatWay(nameless(), []int{9}))
	fails(t, "FormatWay of no road", api.ErrMissing)(street.FormatWay(abc(), []int{9}))
	fails(t, "FormatWay of no way", api.ErrOpen)(street.FormatWay(abc(), []int{1, 0}))
	fails(t, "FormatWay of too many roads", api.ErrLarge)(street.FormatWay(ring(), rounds(201)))
	r := rand.New(rand.NewSource(39))
	for range 300 {
		n := anyNet(r)
		w := anyWay(r, n, r.Intn(len(n.Places)), 20)
		s, e := street.FormatWay(n, w)
		var names []string
		for _, i := range w {
			names = append(names, n.Roads[i].Name)
		}
		gives(t, fmt.Sprint("FormatWay of ", w), strings.Join(names, " "))(s, e)
		gives(t, "ParseWay of "+s, w)(street.ParseWay(n, s))
	}
}

// TestTextsOfNoWay is of P3.9.
func TestTextsOfNoWay(t *testing.T) {
	for _, x := range []struct {
		text string
		e    api.Errno
	}{
		{" ", api.ErrSyntax}, {"x ", api.ErrSyntax}, {" x", api.ErrSyntax}, {"x  y", api.ErrSyntax}, {"x y ", api.ErrSyntax},
		{"y x ", api.ErrSyntax}, {"q  x", api.ErrSyntax}, {"  ", api.ErrSyntax},
		{"q", api.ErrMissing}, {"X", api.ErrMissing}, {"a", api.ErrMissing}, {"x\ty", api.ErrMissing}, {"x\n", api.ErrMissing}, {"x,y", api.ErrMissing}, {"0", api.ErrMissing}, {"xy", api.ErrMissing},
		{"\xff", api.ErrMissing}, {"y x q", api.ErrMissing}, {"-", api.ErrMissing},
		{"y x", api.ErrOpen}, {"x x", api.ErrOpen}, {"x y z", api.ErrOpen},
	} {
		fails(t, fmt.Sprintf("ParseWay of %q", x.text), x.e)(street.ParseWay(abc(), x.text))
	}
	long := strings.TrimSpace(strings.Repeat("to fro ", 101))
	fails(t, "ParseWay of too many roads", api.ErrLarge)(street.ParseWay(ring(), long))
	fails(t, "ParseWay of too many roads, one of them none", api.ErrMissing)(street.ParseWay(ring(), long+" q"))
	fails(t, "ParseWay in a wrong net", api.ErrName)(street.ParseWay(nameless(), " q"))
	fails(t, "ParseWay of nothing in a wrong net", api.ErrName)(street.ParseWay(nameless(), ""))
	fails(t, "ParseWay in a net of no roads", api.ErrMissing)(street.ParseWay(net(1), "x"))
}

// TestNobodyOvertakes is of P3.10.
func TestNobodyOvertakes(t *testing.T) {
	r := rand.New(rand.NewSource(310))
	for range 500 {
		n := anyNet(r)
		x := anyTrip(r, n)
		w := anyWay(r, n, x.From, 8)
		later := min(x.At+1+r.Intn(100), api.MaxStreetTime)
		one, e := street.ArrivalOf(n, w, x.At)
		two, f := street.ArrivalOf(n, w, later)
		if e != api.OK || f != api.OK || two.Lo < one.Lo || two.Hi < one.Hi {
			t.Errorf("%s: the way %v, begun at %d and at %d, arrives at %v and %v", text(n), w, x.At, later, one, two)
		}
		soon, e := street.Earliest(n, x.From, x.At)
		late, f := street.Earliest(n, x.From, later)
		if e != api.OK || f != api.OK || falls(soon.Soon, late.Soon) || falls(soon.Late, late.Late) {
			t.Errorf("%s: from %d, begun at %d and at %d, the earliest arrivals are %v and %v", text(n), x.From, x.At, later, soon, late)
		}
	}
}

// falls tells whether some number of a list is less than that of the list before, or whether one of them alone is there.
func falls(before, behind []int) bool {
	for i := range before {
		if behind[i] < before[i] || (before[i] < 0) != (behind[i] < 0) {
			return true
		}
	}
	return len(before) != len(behind)
}

// TestArriveTogether is of P3.10: between two points whose times fall by just the seconds between, all arrive at once.
func TestArriveTogether(t *testing.T) {
	n := net(2, road("r", 0, 1, 0, point(100, 60, 90), point(150, 10, 40), point(7000, 20, 7200), point(86390, 5, 60)))
	for at := 100; at <= 150; at++ {
		gives(t, fmt.Sprint("ArrivalOf at ", at), span(160, 190))(street.ArrivalOf(n, []int{0}, at))
	}
	gives(t, "ArrivalOf a second later", span(162, 193))(street.ArrivalOf(n, []int{0}, 151))
}
