package street_test

import (
	"fmt"
	"math/rand"
	"slices"
	"testing"

	"fiacre/api"
	"fiacre/street"
)

// isles is a net with the islands 0 3, 1, 2 5 4, 6: roads lead from 0 3 to 1, two of them, and from there to 2 5 4.
func isles() api.StreetNet {
	return net(7,
		even("r0", 2, 5, 0), even("r1", 5, 4, 10), even("r2", 4, 2, 20),
		even("r3", 3, 1, 5), even("r4", 0, 1, 5), even("r5", 1, 5, 7),
		even("r6", 0, 3, 1), even("r7", 3, 0, 1))
}

// TestReaches is of P3.3.
func TestReaches(t *testing.T) {
	for from, wanted := range [][]int{{0, 1, 2, 3, 4, 5}, {1, 2, 4, 5}, {2, 4, 5}, {0, 1, 2, 3, 4, 5}, {2, 4, 5}, {2, 4, 5}, {6}} {
		gives(t, fmt.Sprint("Reaches from ", from), wanted)(street.Reaches(isles(), from))
	}
	gives(t, "Reaches in the document's net", []int{0, 1, 2})(street.Reaches(abc(), 0))
	gives(t, "Reaches from its end", []int{2})(street.Reaches(abc(), 2))
	gives(t, "Reaches in a net of a place", []int{0})(street.Reaches(net(1), 0))
	fails(t, "Reaches in a wrong net", api.ErrName)(street.Reaches(nameless(), -1))
	fails(t, "Reaches from below all places", api.ErrMissing)(street.Reaches(abc(), -1))
	fails(t, "Reaches from no place", api.ErrMissing)(street.Reaches(abc(), 3))
}

// TestIslands is of P3.3.
func TestIslands(t *testing.T) {
	gives(t, "Islands", [][]int{{0, 3}, {1}, {2, 4, 5}, {6}})(street.Islands(isles()))
	gives(t, "Islands of the document's net", [][]int{{0}, {1}, {2}})(street.Islands(abc()))
	gives(t, "Islands of a ring", [][]int{{0, 1}})(street.Islands(ring()))
	gives(t, "Islands of a net of a place", [][]int{{0}})(street.Islands(net(1)))
	gives(t, "Islands of two", [][]int{{0, 2}, {1}})(street.Islands(net(3, even("r", 2, 0, 1), even("s", 0, 2, 1), even("t", 0, 1, 1))))
	fails(t, "Islands of a wrong net", api.ErrName)(street.Islands(nameless()))
	fails(t, "Islands of no places", api.ErrShape)(street.Islands(api.StreetNet{}))
}

// TestNeeded is of P3.3.
func TestNeeded(t *testing.T) {
	for _, x := range []struct {
		n      api.StreetNet
		pair   [2]int
		needed []int
	}{
		{abc(), [2]int{0, 1}, []int{0}},
		{abc(), [2]int{0, 2}, nil},
		{abc(), [2]int{1, 2}, []int{1}},
		{abc(), [2]int{0, 0}, nil},
		{ring(), [2]int{1, 1}, nil},
		{isles(), [2]int{0, 1}, nil},
		{isles(), [2]int{3, 2}, []int{1, 2, 5}},
		{isles(), [2]int{5, 2}, []int{1, 2}},
		{isles(), [2]int{6, 6}, nil},
		{net(2, even("r", 0, 1, 1), even("s", 0, 1, 9)), [2]int{0, 1}, nil},
	} {
		gives(t, fmt.Sprint("Needed for ", x.pair, " of ", text(x.n)), x.needed)(street.Needed(x.n, x.pair))
	}
	fails(t, "Needed for no way", api.ErrNone)(street.Needed(abc(), [2]int{1, 0}))
	fails(t, "Needed for two islands", api.ErrNone)(street.Needed(isles(), [2]int{0, 6}))
	fails(t, "Needed in a wrong net", api.ErrName)(street.Needed(nameless(), [2]int{-1, 0}))
	fails(t, "Needed from no place", api.ErrMissing)(street.Needed(abc(), [2]int{-1, 0}))
	fails(t, "Needed to no place", api.ErrMissing)(street.Needed(abc(), [2]int{2, 3}))
}

// TestReachesAnyNet is of P3.3 and P3.14.
func TestReachesAnyNet(t *testing.T) {
	r := rand.New(rand.NewSource(33))
	for range 300 {
		n := anyNet(r)
		var reached [][]int
		for from := range n.Places {
			var places []int
			for _, w := range simpleWays(n, from) {
				places = append(places, endOf(n, from, w))
			}
			slices.Sort(places)
			reached = append(reached, slices.Compact(places))
			gives(t, fmt.Sprint("Reaches from ", from, " of ", text(n)), reached[from])(street.Reaches(n, from))
		}
		islands, e := street.Islands(n)
		checkIslands(t, n, islands, e, reached)
		x := anyTrip(r, n)
		checkNeeded(t, n, [2]int{x.From, x.To})
	}
}

// checkIslands checks that islands cut the places into parts, and that places are in one of them just if they reach each other.
func checkIslands(t *testing.T, n api.StreetNet, islands [][]int, e api.Errno, reached [][]int) {
	t.Helper()
	if e != api.OK {
		t.Errorf("Islands of %s: error %d", text(n), e)
	}
	places := slices.Concat(islands...)
	slices.Sort(places)
	if len(places) != len(n.Places) || len(slices.Compact(places)) != len(n.Places) {
		t.Errorf("Islands of %s: %v are no parts of all places", text(n), islands)
	}
	for i, island := range islands {
		if !slices.IsSorted(island) || i > 0 && island[0] < islands[i-1][0] {
			t.Errorf("Islands of %s: %v do not ascend", text(n), islands)
		}
		for place := range n.Places {
			both := slices.Contains(reached[island[0]], place) && slices.Contains(reached[place], island[0])
			if both != slices.Contains(island, place) {
				t.Errorf("Islands of %s: %v, %d is wrong", text(n), islands, place)
			}
		}
	}
}

// checkNeeded checks that the roads that are needed are just those of which all ways have one.
func checkNeeded(t *testing.T, n api.StreetNet, pair [2]int) {
	t.Helper()
	var wanted []int
	ways := 0
	for road := range n.Roads {
		on := 0
		ways = 0
		for _, w := range simpleWays(n, pair[0]) {
			if endOf(n, pair[0], w) == pair[1] {
				ways++
				if slices.Contains(w, road) {
					on++
				}
			}
		}
		if ways > 0 && on == ways {
			wanted = append(wanted, road)
		}
	}
	if ways == 0 && pair[0] != pair[1] {
		fails(t, fmt.Sprint("Needed for ", pair, " of ", text(n)), api.ErrNone)(street.Needed(n, pair))
		return
	}
	gives(t, fmt.Sprint("Needed for ", pair, " of ", text(n)), wanted)(street.Needed(n, pair))
}
