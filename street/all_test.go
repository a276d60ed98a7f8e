package street_test

import (
	"fmt"
	"math"
	"math/rand"
	"slices"
	"testing"

	"fiacre/api"
	"fiacre/street"
)

// odd returns a number that is likely to be at an end of something.
func odd(r *rand.Rand) int {
	ends := []int{math.MinInt, -2, -1, 0, 1, 2, 3, 7, 200, 1000, 1001, 7200, 7201, 86399, 86400, 100000, 100001, 604800, 604801, api.MaxNumber, api.MaxNumber + 1, math.MaxInt}
	return ends[r.Intn(len(ends))]
}

// small returns a number that is most often one of a place, or a road.
func small(r *rand.Rand) int {
	if r.Intn(8) == 0 {
		return odd(r)
	}
	return r.Intn(4)
}

func smalls(r *rand.Rand, most int) []int {
	list := make([]int, r.Intn(most+1))
	for i := range list {
		list[i] = small(r)
	}
	return list
}

// spoilt returns a net in which a few things are changed to odd ones.
func spoilt(r *rand.Rand) api.StreetNet {
	n := anyNet(r)
	for range r.Intn(3) {
		switch r.Intn(4) {
		case 0:
			n.Places[r.Intn(len(n.Places))] = []string{"", "p0", "7", "\xff\n", "a b"}[r.Intn(5)]
		case 1:
			n.Roads = append(n.Roads, road("odd", small(r), small(r), odd(r), point(odd(r), odd(r), odd(r)), point(odd(r), odd(r), odd(r))))
		case 2:
			n.Roads = append(n.Roads, road("odd", small(r), small(r), small(r)))
		case 3:
			return api.StreetNet{Places: n.Places[:r.Intn(2)], Roads: n.Roads}
		}
	}
	return n
}

// TestNoPanic is of P1: with whatever arguments every function ends, and beside an error all other results are zero values.
func TestNoPanic(t *testing.T) {
	r := rand.New(rand.NewSource(1))
	for range 5000 {
		n, x := spoilt(r), trip(small(r), small(r), odd(r))
		w := [][]int{smalls(r, 4), slices.Repeat(smalls(r, 2), 101), {small(r)}, nil}[r.Intn(4)]
		ends := zero(t)
		ends(street.Takes(n, small(r), odd(r)))
		ends(street.ArrivalOf(n, w, odd(r)))
		ends(street.MetresOf(n, w))
		ends(street.Reaches(n, small(r)))
		ends(street.Islands(n))
		ends(street.Earliest(n, small(r), odd(r)))
		ends(street.CheckLabels(n, x, labels(anyLabels(r, n), anyLabels(r, n))))
		ends(street.Estimate(n, x))
		ends(street.Fastest(n, x, r.Intn(2) == 0))
		ends(street.LatestFor(n, x))
		ends(way(street.Shortest(n, small(r), small(r))))
		ends(street.CheckHeights(n, [2]int{small(r), small(r)}, anyLabels(r, n)))
		ends(street.HeightsFrom(n, small(r)))
		ends(street.Detour(n, x, w))
		ends(street.Examined(n, api.StreetExam{Places: w, More: odd(r)}))
		ends(street.Without(n, small(r)))
		ends(street.Needed(n, [2]int{small(r), small(r)}))
		ends(street.FormatWay(n, w))
		ends(street.ParseWay(n, wordsOf(r)))
		ends(street.Print(n))
		ends(parsed(scribbled(r, textOf(n))))
		street.CheckNet(n)
		street.CheckWay(n, w)
	}
}

// zero returns a function that takes a result and its error, and wants nothing beside an error.
func zero(t *testing.T) func(got any, e api.Errno) {
	t.Helper()
	return func(got any, e api.Errno) {
		t.Helper()
		if e < api.OK || e > api.ErrBalance || e != api.OK && !isNothing(got) {
			t.Errorf("beside the error %d: %v", e, got)
		}
	}
}

// anyLabels returns as many labels as there are places, or another number of them.
func anyLabels(r *rand.Rand, n api.StreetNet) []int {
	if r.Intn(4) == 0 {
		return smalls(r, 4)
	}
	list := make([]int, len(n.Places))
	for i := range list {
		list[i] = []int{0, 0, small(r)}[r.Intn(3)]
	}
	return list
}

// wordsOf returns the text of a random way, or of none.
func wordsOf(r *rand.Rand) string {
	s := fmt.Sprint("r", r.Intn(4))
	for range r.Intn(3) {
		s += []string{" ", " ", "  ", "\n"}[r.Intn(4)] + fmt.Sprint("r", r.Intn(4))
	}
	return s
}

// textOf returns the text of a net whose roads are between places, otherwise that of another net.
func textOf(n api.StreetNet) string {
	for _, x := range n.Roads {
		if min(x.From, x.To) < 0 || max(x.From, x.To) >= len(n.Places) {
			return abcText
		}
	}
	return slowText(n) + "\n"
}

// scribbled returns a text in which a few bytes are changed, and from which the last one is missing.
func scribbled(r *rand.Rand, s string) string {
	b := []byte(s)
	for range r.Intn(4) {
		b[r.Intn(len(b))] = "\n -+09pr\xff"[r.Intn(9)]
	}
	return string(b[:len(b)-1])
}

// roomy returns a list of the same numbers with room behind it.
func roomy[T any](list []T) []T { return append(make([]T, 0, len(list)+9), list...) }

func roomyNet(n api.StreetNet) api.StreetNet {
	n.Places, n.Roads = roomy(n.Places), roomy(n.Roads)
	for i := range n.Roads {
		n.Roads[i].Points = roomy(n.Roads[i].Points)
	}
	return n
}

// behind returns what stands in the room behind all lists of a net.
func behind(n api.StreetNet) string {
	s := fmt.Sprint(n.Places[:cap(n.Places)], n.Roads[:cap(n.Roads)])
	for _, x := range n.Roads {
		s += fmt.Sprint(x.Points[:cap(x.Points)])
	}
	return s
}

// TestMemory is of R3: arguments stay as they are, and results share no memory with them.
func TestMemory(t *testing.T) {
	n, w := roomyNet(abc()), roomy([]int{0, 1})
	exam := roomy([]int{0, 1, 2})
	l := labels(roomy([]int{0, 100, 160}), roomy([]int{0, 200, 290}))
	all := func() string { return behind(n) + fmt.Sprint(w[:9], exam[:9], l.Soon[:9], l.Late[:9]) }
	before := all()
	for _, list := range [][]int{
		first(street.Reaches(n, 0)), first(street.Needed(n, [2]int{0, 1})), first(street.Fastest(n, trip(0, 2, 0), true)),
		first(way(street.Shortest(n, 0, 2))), first(street.HeightsFrom(n, 0)), first(street.ParseWay(n, "x y")),
	} {
		list = append(list, 99)
		list[0] = 99
	}
	for road := range n.Roads {
		spoil(first(street.Without(n, road)))
	}
	street.CheckNet(n)
	street.CheckWay(n, w)
	street.ArrivalOf(n, w, 0)
	street.MetresOf(n, w)
	street.CheckLabels(n, trip(0, 2, 0), l)
	street.CheckHeights(n, [2]int{0, 2}, l.Soon)
	street.Estimate(n, trip(0, 2, 0))
	street.LatestFor(n, trip(0, 2, 5000))
	street.Detour(n, trip(0, 2, 0), w)
	street.Examined(n, api.StreetExam{Places: exam})
	street.FormatWay(n, w)
	street.Print(n)
	street.Islands(n)
	street.Takes(n, 0, 0)
	if after := all(); after != before {
		t.Errorf("an argument was changed from %s to %s", before, after)
	}
}

func first[T any](x T, _ api.Errno) T { return x }

// spoil changes all that a net has, and what is in the room behind it.
func spoil(n api.StreetNet) {
	for _, r := range n.Roads {
		spoilList(r.Points, point(99, 99, 99))
	}
	spoilList(n.Roads, road("spoilt", 9, 9, 9))
	spoilList(n.Places, "spoilt")
}

func spoilList[T any](list []T, odd T) {
	for i := range list {
		list[i] = odd
	}
	_ = append(list, odd)
}

// TestMemoryOfResults is of R3: the lists of one result share no memory with each other.
func TestMemoryOfResults(t *testing.T) {
	l, e := street.Earliest(abc(), 0, 0)
	_ = append(l.Soon, 99)
	l.Soon[1] = 99
	gives(t, "the other labels", []int{0, 200, 290})(l.Late, e)
	_ = append(l.Late, 99)
	gives(t, "the labels", []int{0, 99, 160})(l.Soon, e)
	islands, e := street.Islands(isles())
	for i := range islands {
		_ = append(islands[i], 99, 99, 99)
	}
	gives(t, "the islands", [][]int{{0, 3}, {1}, {2, 4, 5}, {6}})(islands, e)
	n, e := parsed(abcText)
	for i := range n.Roads {
		_ = append(n.Roads[i].Points, point(99, 99, 99))
	}
	gives(t, "the net", abc())(n, e)
	n, e = street.Without(abc(), 2)
	for i := range n.Roads {
		_ = append(n.Roads[i].Points, point(99, 99, 99))
	}
	wanted := abc()
	wanted.Roads = wanted.Roads[:2]
	gives(t, "the net without a road", wanted)(n, e)
}

// TestNothing is of R5: a nil list and an empty one are the same.
func TestNothing(t *testing.T) {
	n := api.StreetNet{Places: []string{"a"}, Roads: []api.StreetRoad{}}
	for _, w := range [][]int{nil, {}} {
		gives(t, "ArrivalOf no roads", span(5, 5))(street.ArrivalOf(n, w, 5))
		gives(t, "MetresOf no roads", 0)(street.MetresOf(n, w))
		gives(t, "FormatWay of no roads", "")(street.FormatWay(n, w))
		gives(t, "Detour of no roads", span(0, 0))(street.Detour(n, trip(0, 0, 5), w))
		fails(t, "Examined of nothing", api.ErrShape)(street.Examined(n, api.StreetExam{Places: w}))
		fails(t, "CheckHeights of nothing", api.ErrShape)(street.CheckHeights(n, [2]int{0, 0}, w))
	}
	fails(t, "Print of nothing", api.ErrShape)(street.Print(api.StreetNet{Places: []string{}}))
	wrong := net(2, api.StreetRoad{Name: "r", From: 0, To: 1, Points: []api.StreetPoint{}})
	fails(t, "Print of a road without points", api.ErrShape)(street.Print(wrong))
}

// TestLargeNet is of P1: also the largest nets are soon done with.
func TestLargeNet(t *testing.T) {
	n := net(api.MaxStreetPlaces)
	for i := range api.MaxStreetRoads {
		var points []api.StreetPoint
		for j := range api.MaxStreetPoints {
			points = append(points, point(10000*j, 10, 7200))
		}
		n.Roads = append(n.Roads, road(fmt.Sprint("r", i), i%20, (i+1+i/20)%20, 1, points...))
	}
	gives(t, "LatestFor the largest net", 604800-7*7200)(street.LatestFor(n, trip(0, 19, 604800)))
	gives(t, "Islands of the largest net", [][]int{{0, 1, 2, 3, 4, 5, 6, 7, 8, 9, 10, 11, 12, 13, 14, 15, 16, 17, 18, 19}})(street.Islands(n))
	gives(t, "Needed in the largest net", []int{})(street.Needed(n, [2]int{0, 19}))
}
