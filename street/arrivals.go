package street

import (
	"sort"

	"fiacre/api"
	"fiacre/check"
)

// Earliest returns the earliest arrivals at all places.
func Earliest(n api.StreetNet, from, at int) (api.StreetLabels, api.Errno) {
	if e := check.First(errorOfNet(n), errorOfPlaces(n, from), errorOfTime(at)); e != api.OK {
		return api.StreetLabels{}, e
	}
	return earliest(n, from, at), api.OK
}

func earliest(n api.StreetNet, from, at int) api.StreetLabels {
	return api.StreetLabels{Soon: search(n, from, at, soonest(n)).labels, Late: search(n, from, at, latest(n)).labels}
}

// CheckLabels accepts labels that prove for a trip that nobody arrives earlier, and returns their bound.
func CheckLabels(n api.StreetNet, t api.StreetTrip, l api.StreetLabels) (api.Range, api.Errno) {
	if e := check.First(errorOfNet(n), errorOfTrip(n, t), errorOfLabels(n, l.Soon, l.Late)); e != api.OK {
		return api.Range{}, e
	}
	begun := check.Within(l.Soon[t.From], 0, t.At) && check.Within(l.Late[t.From], 0, t.At)
	if !begun || !prove(n, l.Soon, soonest(n)) || !prove(n, l.Late, latest(n)) {
		return api.Range{}, api.ErrProof
	}
	return boundOf(l, t)
}

// boundOf returns both labels of the end of a trip.
func boundOf(l api.StreetLabels, t api.StreetTrip) (api.Range, api.Errno) {
	if l.Soon[t.To] == none || l.Late[t.To] == none {
		return api.Range{}, api.ErrNone
	}
	return api.Range{Lo: l.Soon[t.To], Hi: l.Late[t.To]}, api.OK
}

// Estimate returns from when to when the earliest arrival of a trip is.
func Estimate(n api.StreetNet, t api.StreetTrip) (api.Range, api.Errno) {
	if e := check.First(errorOfNet(n), errorOfTrip(n, t)); e != api.OK {
		return api.Range{}, e
	}
	return boundOf(earliest(n, t.From, t.At), t)
}

// Fastest returns a way that arrives as early as possible if all goes as fast as it may, or as slow as it may.
func Fastest(n api.StreetNet, t api.StreetTrip, late bool) ([]int, api.Errno) {
	if e := check.First(errorOfNet(n), errorOfTrip(n, t)); e != api.OK {
		return nil, e
	}
	next := soonest(n)
	if late {
		next = latest(n)
	}
	found := search(n, t.From, t.At, next)
	if found.labels[t.To] == none {
		return nil, api.ErrNone
	}
	return found.wayTo(n, t.To), api.OK
}

// LatestFor returns the latest time from which one surely arrives by the time of the trip.
func LatestFor(n api.StreetNet, t api.StreetTrip) (int, api.Errno) {
	if e := check.First(errorOfNet(n), errorOfTrip(n, t)); e != api.OK {
		return 0, e
	}
	tooLate := sort.Search(t.At+1, func(at int) bool {
		arrival := search(n, t.From, at, latest(n)).labels[t.To]
		return arrival == none || arrival > t.At
	})
	if tooLate == 0 {
		return 0, api.ErrNone
	}
	return tooLate - 1, api.OK
}

// Detour returns from how many to how many seconds longer than the earliest arrivals a way is.
func Detour(n api.StreetNet, t api.StreetTrip, way []int) (api.Range, api.Errno) {
	if e := check.First(errorOfNet(n), errorOfTrip(n, t), errorOfWay(n, way)); e != api.OK {
		return api.Range{}, e
	}
	if !joins(n, way, t.From, t.To) {
		return api.Range{}, api.ErrClash
	}
	best, arrival := earliest(n, t.From, t.At), arrivalOf(n, way, t.At)
	return api.Range{Lo: max(0, arrival.Lo-best.Late[t.To]), Hi: max(0, arrival.Hi-best.Soon[t.To])}, api.OK
}

// joins tells whether a way leads from a place to another one.
func joins(n api.StreetNet, way []int, from, to int) bool {
	if len(way) == 0 {
		return from == to
	}
	return n.Roads[way[0]].From == from && n.Roads[way[len(way)-1]].To == to
}
