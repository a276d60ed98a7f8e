package share_test

import (
	"fmt"
	"math"
	"math/rand"
	"testing"

	"fiacre/api"
	"fiacre/share"
)

// square returns a map of so many places with 0 everywhere.
func square(places int) [][]int {
	times := make([][]int, places)
	for i := range times {
		times[i] = make([]int, places)
	}
	return times
}

// changed returns a map of so many places with one time.
func changed(places, from, to, time int) [][]int {
	times := square(places)
	times[from][to] = time
	return times
}

// TestCheckMap is of P6.1: the errors of a map, where they are, and which comes first.
func TestCheckMap(t *testing.T) {
	for _, x := range []struct {
		times  [][]int
		places [2]int
		e      api.Errno
	}{
		{three().Times, [2]int{}, api.OK},
		{square(1), [2]int{}, api.OK},
		{square(12), [2]int{}, api.OK},
		{changed(12, 11, 10, 20000), [2]int{}, api.OK},
		{[][]int{{0, 20000}, {1, 0}}, [2]int{}, api.OK},
		{nil, [2]int{}, api.ErrShape},
		{[][]int{}, [2]int{}, api.ErrShape},
		{square(13), [2]int{}, api.ErrLarge},
		{make([][]int, 13), [2]int{}, api.ErrLarge},
		{make([][]int, 12), [2]int{}, api.ErrShape},
		{[][]int{{}}, [2]int{}, api.ErrShape},
		{[][]int{{0, 0}}, [2]int{}, api.ErrShape},
		{[][]int{{0, 1}, {1}}, [2]int{1, 0}, api.ErrShape},
		{[][]int{{0, 1}, {1, 0, 1}}, [2]int{1, 0}, api.ErrShape},
		{[][]int{{0, 1, 1}, {1, 0, 1}, nil}, [2]int{2, 0}, api.ErrShape},
		{[][]int{{0, 1}, {-1, 0, 1}}, [2]int{1, 0}, api.ErrShape},
		{changed(3, 1, 2, -1), [2]int{1, 2}, api.ErrRange},
		{changed(3, 2, 1, 20001), [2]int{2, 1}, api.ErrRange},
		{changed(3, 0, 1, math.MaxInt), [2]int{0, 1}, api.ErrRange},
		{changed(3, 1, 1, math.MinInt), [2]int{1, 1}, api.ErrRange},
		{changed(3, 1, 1, 20001), [2]int{1, 1}, api.ErrRange},
		{changed(3, 1, 1, 1), [2]int{1, 1}, api.ErrZero},
		{changed(12, 11, 11, 20000), [2]int{11, 11}, api.ErrZero},
		{[][]int{{0, 1}, {-1, 5}}, [2]int{1, 0}, api.ErrRange},
		{[][]int{{5, -1}, {1, 0}}, [2]int{0, 0}, api.ErrZero},
		{[][]int{{0, -1}, {1}}, [2]int{0, 1}, api.ErrRange}, // row by row, with their times
		{[][]int{{5, 1}, nil}, [2]int{0, 0}, api.ErrZero},
	} {
		m := api.ShareMap{Times: x.times}
		places, e := share.CheckMap(m)
		if places != x.places || e != x.e {
			t.Errorf("CheckMap %v: %v, error %d; want %v, %d", x.times, places, e, x.places, x.e)
		}
		if x.e == api.OK {
			continue
		}
		fails(t, fmt.Sprint("FirstShort ", x.times), x.e)(share.FirstShort(m))
		fails(t, fmt.Sprint("Closed ", x.times), x.e)(share.Closed(m))
		at(t, fmt.Sprint("CheckPlan ", x.times), 0, x.e)(share.CheckPlan(m, nameless()))
	}
}

// eachTriple hands all three places of a map over that are short, in their order.
func eachTriple(m api.ShareMap, do func(triple [3]int)) {
	places := len(m.Times)
	for n := range places * places * places {
		i, k, j := n/places/places, n/places%places, n%places
		if m.Times[i][j] > m.Times[i][k]+m.Times[k][j] {
			do([3]int{i, k, j})
		}
	}
}

// TestFirstShort is of P6.1: the first three places between which a way is shorter than the direct one.
func TestFirstShort(t *testing.T) {
	gives(t, "the example", [3]int{0, 1, 2})(share.FirstShort(api.ShareMap{Times: [][]int{{0, 50, 200}, {50, 0, 50}, {200, 50, 0}}}))
	fails(t, "a way just as long", api.ErrNone)(share.FirstShort(api.ShareMap{Times: [][]int{{0, 50, 100}, {50, 0, 50}, {100, 50, 0}}}))
	fails(t, "one place", api.ErrNone)(share.FirstShort(api.ShareMap{Times: square(1)}))
	r := rand.New(rand.NewSource(61))
	for range 2000 {
		m := anyMap(r, 2+r.Intn(11), scale(r))
		if r.Intn(3) == 0 {
			m = first(share.Closed(m))
			m.Times[0][1] += r.Intn(2)
		}
		var triples [][3]int
		eachTriple(m, func(triple [3]int) { triples = append(triples, triple) })
		if len(triples) == 0 {
			fails(t, fmt.Sprint("FirstShort ", m), api.ErrNone)(share.FirstShort(m))
		} else {
			gives(t, fmt.Sprint("FirstShort ", m), triples[0])(share.FirstShort(m))
		}
	}
}

// slowLeast is the definition of a time of the closed map: the least sum of all ways that come to no place twice.
func slowLeast(m api.ShareMap, from, to int, seen map[int]bool) int {
	if from == to {
		return 0
	}
	least := math.MaxInt / 2
	seen[from] = true
	for next := range m.Times {
		if !seen[next] {
			least = min(least, m.Times[from][next]+slowLeast(m, next, to, seen))
		}
	}
	seen[from] = false
	return least
}

// TestClosed is of P6.1 and P6.10: the least sums of times of all ways; nothing is short then.
func TestClosed(t *testing.T) {
	gives(t, "the example", "{[[0 50 100] [50 0 50] [100 50 0]]}")(share.Closed(api.ShareMap{Times: [][]int{{0, 50, 200}, {50, 0, 50}, {200, 50, 0}}}))
	gives(t, "one place", "{[[0]]}")(share.Closed(api.ShareMap{Times: square(1)}))
	r := rand.New(rand.NewSource(62))
	for range 400 {
		m := anyMap(r, 6, scale(r))
		c, e := share.Closed(m)
		wanted := square(len(m.Times))
		for from, row := range wanted {
			for to := range row {
				row[to] = slowLeast(m, from, to, map[int]bool{})
			}
		}
		gives(t, fmt.Sprint("Closed ", m), api.ShareMap{Times: wanted})(c, e)
	}
	for range 400 {
		m := anyMap(r, 12, scale(r))
		c := first(share.Closed(m))
		at(t, fmt.Sprint("the places of the closed map of ", m), len(m.Times), api.OK)(len(c.Times), api.OK)
		fails(t, fmt.Sprint("FirstShort of the closed map of ", m), api.ErrNone)(share.FirstShort(c))
		gives(t, fmt.Sprint("Closed of the closed map of ", m), c)(share.Closed(c))
	}
	// The shortest way leads over all places, one after the other, from the last one to the first one.
	long := api.ShareMap{Times: square(12)}
	for from, row := range long.Times {
		for to := range row {
			row[to] = 20000
			if to == from-1 {
				row[to] = 1
			}
		}
		row[from] = 0
	}
	gives(t, "a way over all places", 11)(first(share.Closed(long)).Times[11][0], api.OK)
	gives(t, "a way that is not there", 20000)(first(share.Closed(long)).Times[0][11], api.OK)
}
