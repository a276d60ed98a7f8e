package street_test

import (
	"fmt"
	"math"
	"math/rand"
	"slices"
	"testing"

	"fiacre/api"
	"fiacre/street"
)

// flat is a net whose roads have no metres, but for one to the last place.
func flat() api.StreetNet {
	return net(4, even("r", 0, 1, 0), even("s", 1, 0, 0), even("t", 1, 2, 0), even("u", 2, 1, 0), even("v", 2, 0, 0), even("w", 2, 3, 7), even("x", 3, 2, 0))
}

// TestHeights is of P3.6.
func TestHeights(t *testing.T) {
	for _, x := range []struct {
		n       api.StreetNet
		from    int
		heights []int
	}{
		{abc(), 0, []int{0, 1000, 1500}}, {abc(), 1, []int{-1, 0, 500}}, {abc(), 2, []int{-1, -1, 0}}, {net(1), 0, []int{0}},
		{isles(), 3, []int{1, 5, 42, 0, 22, 12, -1}}, {flat(), 0, []int{0, 0, 0, 7}}, {flat(), 3, []int{0, 0, 0, 0}},
		{net(2, even("r", 0, 1, 9), even("s", 0, 1, 4), even("t", 0, 1, 5)), 0, []int{0, 4}},
	} {
		gives(t, fmt.Sprint("HeightsFrom ", x.from, " of ", text(x.n)), x.heights)(street.HeightsFrom(x.n, x.from))
	}
	fails(t, "HeightsFrom in a wrong net", api.ErrName)(street.HeightsFrom(nameless(), 3))
	fails(t, "HeightsFrom no place", api.ErrMissing)(street.HeightsFrom(abc(), 3))
	fails(t, "HeightsFrom below all places", api.ErrMissing)(street.HeightsFrom(abc(), -1))
}

// TestShortest is of P3.6.
func TestShortest(t *testing.T) {
	for _, x := range []struct {
		n        api.StreetNet
		from, to int
		way      []int
		metres   int
	}{
		{abc(), 0, 2, []int{0, 1}, 1500}, {abc(), 0, 1, []int{0}, 1000}, {abc(), 2, 2, nil, 0}, {flat(), 0, 0, nil, 0}, {flat(), 0, 3, []int{0, 2, 5}, 7},
		{net(2, even("r", 0, 1, 9), even("s", 0, 1, 4), even("t", 0, 1, 5)), 0, 1, []int{1}, 4},
		{isles(), 3, 4, []int{3, 5, 1}, 22},
	} {
		w, metres, e := street.Shortest(x.n, x.from, x.to)
		gives(t, fmt.Sprint("Shortest from ", x.from, " to ", x.to, " of ", text(x.n)), x.way)(w, e)
		gives(t, "its metres", x.metres)(metres, e)
	}
	for _, x := range []struct {
		n        api.StreetNet
		from, to int
		e        api.Errno
	}{
		{nameless(), 3, 3, api.ErrName}, {abc(), 3, 0, api.ErrMissing}, {abc(), 0, 3, api.ErrMissing}, {abc(), -1, 0, api.ErrMissing}, {abc(), 0, -1, api.ErrMissing},
		{abc(), 1, 0, api.ErrNone}, {isles(), 0, 6, api.ErrNone},
	} {
		w, metres, e := street.Shortest(x.n, x.from, x.to)
		fails(t, fmt.Sprint("Shortest from ", x.from, " to ", x.to, " of ", text(x.n)), x.e)(w, e)
		fails(t, "its metres", x.e)(metres, e)
	}
}

// TestCheckHeights is of P3.6.
func TestCheckHeights(t *testing.T) {
	for _, x := range []struct {
		pair    [2]int
		heights []int
		height  int
	}{
		{[2]int{0, 2}, []int{0, 1000, 1500}, 1500},
		{[2]int{0, 1}, []int{0, 1000, 1500}, 1000},
		{[2]int{0, 0}, []int{0, 1000, 1500}, 0},
		{[2]int{0, 2}, []int{0, 900, 1400}, 1400},
		{[2]int{0, 2}, []int{0, 0, 0}, 0},
		{[2]int{1, 2}, []int{-1, 0, 500}, 500},
		{[2]int{1, 2}, []int{5, 0, 500}, 500},
		{[2]int{2, 0}, []int{api.MaxNumber, 0, 0}, api.MaxNumber},
	} {
		gives(t, fmt.Sprint("CheckHeights ", x.heights, " for ", x.pair), x.height)(street.CheckHeights(abc(), x.pair, x.heights))
	}
	for _, x := range []struct {
		pair    [2]int
		heights []int
		e       api.Errno
	}{
		{[2]int{-1, 0}, nil, api.ErrMissing},
		{[2]int{0, 3}, nil, api.ErrMissing},
		{[2]int{0, 2}, nil, api.ErrShape},
		{[2]int{0, 2}, []int{-2, 0}, api.ErrShape},
		{[2]int{0, 2}, []int{0, 0, 0, -2}, api.ErrShape},
		{[2]int{0, 2}, []int{1, 0, -2}, api.ErrRange},
		{[2]int{2, 0}, []int{api.MaxNumber + 1, 0, 0}, api.ErrRange},
		{[2]int{2, 0}, []int{math.MaxInt, math.MinInt, 0}, api.ErrRange},
		{[2]int{0, 2}, []int{1, 1000, 1500}, api.ErrProof},
		{[2]int{0, 2}, []int{-1, 1000, 1500}, api.ErrProof},
		{[2]int{0, 2}, []int{-1, -1, -1}, api.ErrProof},
		{[2]int{0, 2}, []int{0, 1001, 1500}, api.ErrProof},
		{[2]int{0, 2}, []int{0, 1000, 1501}, api.ErrProof},
		{[2]int{0, 0}, []int{0, 1000, 1501}, api.ErrProof},
		{[2]int{0, 1}, []int{0, 1000, -1}, api.ErrProof},
		{[2]int{0, 2}, []int{0, -1, 1500}, api.ErrProof},
		{[2]int{1, 2}, []int{0, 1, 500}, api.ErrProof},
		{[2]int{1, 2}, []int{-1, 0, 501}, api.ErrProof},
		{[2]int{2, 0}, []int{-1, 0, 0}, api.ErrNone},
		{[2]int{1, 0}, []int{-1, 0, 500}, api.ErrNone},
	} {
		fails(t, fmt.Sprint("CheckHeights ", x.heights, " for ", x.pair), x.e)(street.CheckHeights(abc(), x.pair, x.heights))
	}
	fails(t, "CheckHeights in a wrong net", api.ErrName)(street.CheckHeights(nameless(), [2]int{-1, 0}, nil))
}

// slowHeightsProve tells whether heights prove that no way from a place is shorter.
func slowHeightsProve(n api.StreetNet, from int, heights []int) bool {
	for _, x := range n.Roads {
		if heights[x.From] >= 0 && (heights[x.To] < 0 || heights[x.To] > heights[x.From]+x.Metres) {
			return false
		}
	}
	return heights[from] == 0
}

// TestNoWayIsShorter is of P3.6 and P3.12.
func TestNoWayIsShorter(t *testing.T) {
	r := rand.New(rand.NewSource(312))
	accepted, refused := 0, 0
	for range 2000 {
		n := anyNet(r)
		x := anyTrip(r, n)
		heights := slowHeights(n, x.From)
		of := fmt.Sprint(" from ", x.From, " to ", x.To, " of ", text(n))
		gives(t, "HeightsFrom"+of, heights)(street.HeightsFrom(n, x.From))
		w, metres, e := street.Shortest(n, x.From, x.To)
		if heights[x.To] < 0 {
			fails(t, "Shortest"+of, api.ErrNone)(w, e)
		} else {
			gives(t, "Shortest"+of, heights[x.To])(metres, e)
			gives(t, "MetresOf", heights[x.To])(street.MetresOf(n, w))
			gives(t, "CheckHeights"+of, heights[x.To])(street.CheckHeights(n, [2]int{x.From, x.To}, heights))
		}
		if e == api.OK && !joins(n, w, x.From, x.To) {
			t.Errorf("Shortest%s: %v is no way, or comes to a place twice", of, w)
		}
		other := changed(r, heights)
		what := fmt.Sprint("CheckHeights ", other, of)
		switch {
		case !slowHeightsProve(n, x.From, other):
			refused++
			fails(t, what, api.ErrProof)(street.CheckHeights(n, [2]int{x.From, x.To}, other))
		case other[x.To] < 0:
			fails(t, what, api.ErrNone)(street.CheckHeights(n, [2]int{x.From, x.To}, other))
		default:
			accepted++
			gives(t, what, other[x.To])(street.CheckHeights(n, [2]int{x.From, x.To}, other))
			if other[x.To] > heights[x.To] && heights[x.To] >= 0 {
				t.Errorf("%s, but a way has %d metres", what, heights[x.To])
			}
		}
	}
	if accepted < 200 || refused < 200 {
		t.Error("too few heights were tried:", accepted, refused)
	}
}

// TestOneWayAndOn is of P3.12: a way, and the way on, have no less metres than the height.
func TestOneWayAndOn(t *testing.T) {
	r := rand.New(rand.NewSource(3120))
	for range 500 {
		n := anyNet(r)
		from := r.Intn(len(n.Places))
		one := anyWay(r, n, from, 5)
		on := anyWay(r, n, endOf(n, from, one), 5)
		first, e := street.MetresOf(n, one)
		second, f := street.MetresOf(n, on)
		heights, g := street.HeightsFrom(n, from)
		end := endOf(n, endOf(n, from, one), on)
		if e != api.OK || f != api.OK || g != api.OK || heights[end] < 0 || heights[end] > first+second {
			t.Errorf("%s: from %d the ways %v and %v have %d and %d metres; the heights are %v", text(n), from, one, on, first, second, heights)
		}
	}
}

// TestExaminations is of P3.7.
func TestExaminations(t *testing.T) {
	exam := func(more int, places ...int) api.StreetExam { return api.StreetExam{Places: places, More: more} }
	result := func(told, least int, passed bool) api.StreetResult {
		return api.StreetResult{Told: told, Least: least, Passed: passed}
	}
	parallel := net(3, even("r", 0, 1, 900), even("s", 0, 1, 700), even("t", 0, 1, 800), even("u", 1, 2, 100), even("v", 1, 0, 0), even("w", 0, 2, 810))
	for _, x := range []struct {
		n      api.StreetNet
		exam   api.StreetExam
		result api.StreetResult
	}{
		{abc(), exam(0, 0, 2), result(2000, 1500, false)},
		{abc(), exam(333, 0, 2), result(2000, 1500, false)},
		{abc(), exam(334, 0, 2), result(2000, 1500, true)},
		{abc(), exam(1000, 0, 2), result(2000, 1500, true)},
		{abc(), exam(0, 0, 1, 2), result(1500, 1500, true)},
		{abc(), exam(0, 1, 2), result(500, 500, true)},
		{parallel, exam(0, 0, 1), result(700, 700, true)},
		{parallel, exam(12, 0, 2), result(810, 800, false)},
		{parallel, exam(13, 0, 2), result(810, 800, true)},
		{parallel, exam(0, 0, 1, 2), result(800, 800, true)},
		{parallel, exam(1000, 0, 1, 0, 1), result(1400, 700, true)},
		{parallel, exam(999, 0, 1, 0, 1), result(1400, 700, false)},
		{parallel, exam(1000, 0, 1, 0), result(700, 0, false)},
		{flat(), exam(0, 0, 1, 2, 0), result(0, 0, true)},
		{ring(), exam(1000, rounds(200)...), result(100*7200+99*3, 7200, false)},
	} {
		gives(t, fmt.Sprint("Examined ", x.exam), x.result)(street.Examined(x.n, x.exam))
	}
	for _, x := range []struct {
		n    api.StreetNet
		exam api.StreetExam
		e    api.Errno
	}{
		{nameless(), exam(-1), api.ErrName},
		{abc(), exam(-1), api.ErrShape},
		{abc(), exam(-1, 9), api.ErrShape},
		{abc(), exam(0, 0), api.ErrShape},
		{ring(), exam(0, rounds(201)...), api.ErrLarge},
		{ring(), exam(-1, slices.Repeat([]int{9}, 201)...), api.ErrLarge},
		{abc(), exam(-1, 0, 3), api.ErrMissing},
		{abc(), exam(0, -1, 0), api.ErrMissing},
		{abc(), exam(0, 2, 0, math.MaxInt), api.ErrMissing},
		{abc(), exam(-1, 2, 0), api.ErrRange},
		{abc(), exam(1001, 0, 1), api.ErrRange},
		{abc(), exam(math.MinInt, 0, 1), api.ErrRange},
		{abc(), exam(0, 2, 0), api.ErrOpen},
		{abc(), exam(0, 0, 1, 0), api.ErrOpen},
		{abc(), exam(0, 0, 0), api.ErrOpen},
		{abc(), exam(0, 0, 2, 2), api.ErrOpen},
	} {
		fails(t, fmt.Sprint("Examined ", x.exam), x.e)(street.Examined(x.n, x.exam))
	}
}

// TestExaminationsOfWays is of P3.7.
func TestExaminationsOfWays(t *testing.T) {
	r := rand.New(rand.NewSource(37))
	passed, failed := 0, 0
	for range 1000 {
		n := anyNet(r)
		x := api.StreetExam{Places: []int{r.Intn(len(n.Places))}, More: r.Intn(1001)}
		told := 0
		for _, i := range anyWay(r, n, x.Places[0], 5) {
			from, to, least := n.Roads[i].From, n.Roads[i].To, n.Roads[i].Metres
			for _, other := range n.Roads {
				if other.From == from && other.To == to {
					least = min(least, other.Metres)
				}
			}
			told += least
			x.Places = append(x.Places, to)
		}
		if len(x.Places) == 1 {
			fails(t, "Examined of a place", api.ErrShape)(street.Examined(n, x))
			continue
		}
		least := slowHeights(n, x.Places[0])[x.Places[len(x.Places)-1]]
		wanted := api.StreetResult{Told: told, Least: least, Passed: 1000*told <= (1000+x.More)*least}
		gives(t, fmt.Sprint("Examined ", x, " of ", text(n)), wanted)(street.Examined(n, x))
		if wanted.Passed {
			passed++
		} else {
			failed++
		}
	}
	if passed < 100 || failed < 100 {
		t.Error("too few examinations were tried:", passed, failed)
	}
}
