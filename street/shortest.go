package street

import (
	"fiacre/api"
	"fiacre/check"
)

// HeightsFrom returns the least metres from a place to all places.
func HeightsFrom(n api.StreetNet, from int) ([]int, api.Errno) {
	if e := check.First(errorOfNet(n), errorOfPlaces(n, from)); e != api.OK {
		return nil, e
	}
	return heightsFrom(n, from), api.OK
}

func heightsFrom(n api.StreetNet, from int) []int { return search(n, from, 0, further(n)).labels }

// Shortest returns a shortest way, and its metres.
func Shortest(n api.StreetNet, from, to int) ([]int, int, api.Errno) {
	if e := check.First(errorOfNet(n), errorOfPlaces(n, from, to)); e != api.OK {
		return nil, 0, e
	}
	found := search(n, from, 0, further(n))
	if found.labels[to] == none {
		return nil, 0, api.ErrNone
	}
	return found.wayTo(n, to), found.labels[to], api.OK
}

// CheckHeights accepts heights that prove that no way between two places is shorter, and returns that of the second one.
func CheckHeights(n api.StreetNet, pair [2]int, heights []int) (int, api.Errno) {
	if e := check.First(errorOfNet(n), errorOfPlaces(n, pair[:]...), errorOfLabels(n, heights)); e != api.OK {
		return 0, e
	}
	switch {
	case heights[pair[0]] != 0 || !prove(n, heights, further(n)):
		return 0, api.ErrProof
	case heights[pair[1]] == none:
		return 0, api.ErrNone
	}
	return heights[pair[1]], api.OK
}

// Examined returns what an examination comes to.
func Examined(n api.StreetNet, x api.StreetExam) (api.StreetResult, api.Errno) {
	if e := check.First(errorOfNet(n), errorOfExam(n, x)); e != api.OK {
		return api.StreetResult{}, e
	}
	told, e := toldRoads(n, x.Places)
	if e != api.OK {
		return api.StreetResult{}, e
	}
	first, last := x.Places[0], x.Places[len(x.Places)-1]
	r := api.StreetResult{Told: along(further(n), 0, told...), Least: heightsFrom(n, first)[last]}
	r.Passed = 1000*r.Told <= (1000+x.More)*r.Least
	return r, api.OK
}

func errorOfExam(n api.StreetNet, x api.StreetExam) api.Errno {
	switch {
	case len(x.Places) < 2:
		return api.ErrShape
	case len(x.Places) > api.MaxStreetWay:
		return api.ErrLarge
	}
	if e := errorOfPlaces(n, x.Places...); e != api.OK {
		return e
	}
	if !check.Within(x.More, 0, 1000) {
		return api.ErrRange
	}
	return api.OK
}

// toldRoads returns, from each place to the next one, the shortest one of all roads.
func toldRoads(n api.StreetNet, places []int) ([]int, api.Errno) {
	var told []int
	for i, to := range places[1:] {
		best := none
		for road, r := range n.Roads {
			if r.From == places[i] && r.To == to && (best == none || r.Metres < n.Roads[best].Metres) {
				best = road
			}
		}
		if best == none {
			return nil, api.ErrOpen
		}
		told = append(told, best)
	}
	return told, api.OK
}
