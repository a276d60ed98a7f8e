package street

import (
	"slices"

	"fiacre/api"
	"fiacre/check"
)

// A tree has the best ways from a place: for each place its least label, and the last road of a way that has it; none where there is none.
type tree struct{ labels, last []int }

// search returns the tree of a place that has this label.
func search(n api.StreetNet, from, label int, next step) tree {
	t := tree{labels: slices.Repeat([]int{none}, len(n.Places)), last: slices.Repeat([]int{none}, len(n.Places))}
	done := make([]bool, len(n.Places))
	nearest := func() int {
		best := none
		for place, reached := range t.labels {
			if !done[place] && reached != none && (best == none || reached < t.labels[best]) {
				best = place
			}
		}
		return best
	}
	t.labels[from] = label
	for place := nearest(); place != none; place = nearest() {
		done[place] = true
		for road, r := range n.Roads {
			// A place that is done is left alone, so that no way comes to a place twice over roads that take nothing.
			if r.From != place || done[r.To] {
				continue
			}
			if reached := next(road, t.labels[place]); t.labels[r.To] == none || reached < t.labels[r.To] {
				t.labels[r.To], t.last[r.To] = reached, road
			}
		}
	}
	return t
}

// wayTo returns the way of the tree to a place.
func (t tree) wayTo(n api.StreetNet, to int) []int {
	var way []int
	for road := t.last[to]; road != none; road = t.last[n.Roads[road].From] {
		way = append(way, road)
	}
	slices.Reverse(way)
	return way
}

// prove tells whether labels prove that no way leads to a lesser one from a place whose own label is small enough.
func prove(n api.StreetNet, labels []int, next step) bool {
	for road, r := range n.Roads {
		if labels[r.From] == none {
			continue
		}
		if labels[r.To] == none || labels[r.To] > next(road, labels[r.From]) {
			return false
		}
	}
	return true
}

// errorOfLabels returns the error of a list that should have a label for each place.
func errorOfLabels(n api.StreetNet, lists ...[]int) api.Errno {
	for _, labels := range lists {
		if len(labels) != len(n.Places) {
			return api.ErrShape
		}
	}
	for _, label := range slices.Concat(lists...) {
		if !check.Within(label, none, api.MaxNumber) {
			return api.ErrRange
		}
	}
	return api.OK
}

// Reaches returns all places that can be reached from a place.
func Reaches(n api.StreetNet, from int) ([]int, api.Errno) {
	if e := check.First(errorOfNet(n), errorOfPlaces(n, from)); e != api.OK {
		return nil, e
	}
	var places []int
	for place, height := range heightsFrom(n, from) {
		if height != none {
			places = append(places, place)
		}
	}
	return places, api.OK
}

// Islands returns all islands.
func Islands(n api.StreetNet) ([][]int, api.Errno) {
	if e := errorOfNet(n); e != api.OK {
		return nil, e
	}
	heights := make([][]int, len(n.Places))
	for place := range heights {
		heights[place] = heightsFrom(n, place)
	}
	var islands [][]int
	for place := range heights {
		var island []int
		for other := range heights {
			if heights[place][other] != none && heights[other][place] != none {
				island = append(island, other)
			}
		}
		if island[0] == place {
			islands = append(islands, island)
		}
	}
	return islands, api.OK
}

// Needed returns all roads that are needed for two places.
func Needed(n api.StreetNet, pair [2]int) ([]int, api.Errno) {
	if e := check.First(errorOfNet(n), errorOfPlaces(n, pair[:]...)); e != api.OK {
		return nil, e
	}
	if !leads(n, pair) {
		return nil, api.ErrNone
	}
	var needed []int
	for road := range n.Roads {
		if !leads(without(n, road), pair) {
			needed = append(needed, road)
		}
	}
	return needed, api.OK
}

// leads tells whether some way leads from the first place to the second one.
func leads(n api.StreetNet, pair [2]int) bool { return heightsFrom(n, pair[0])[pair[1]] != none }
