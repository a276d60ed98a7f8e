package street

import (
	"fiacre/api"
	"fiacre/check"
)

// CheckWay returns the first error of a way, and the number of the road of the way that has it.
func CheckWay(n api.StreetNet, way []int) (int, api.Errno) {
	if e := errorOfNet(n); e != api.OK {
		return 0, e
	}
	if len(way) > api.MaxStreetWay {
		return 0, api.ErrLarge
	}
	for i, road := range way {
		switch {
		case !isRoad(n, road):
			return i, api.ErrMissing
		case i > 0 && n.Roads[way[i-1]].To != n.Roads[road].From:
			return i, api.ErrOpen
		}
	}
	return 0, api.OK
}

func errorOfWay(n api.StreetNet, way []int) api.Errno {
	_, e := CheckWay(n, way)
	return e
}

// A step returns the label at the end of a road from that at its beginning: an arrival, or metres.
// It returns no less than that label, and no less for a greater one: the search for ways relies on this.
type step func(road, label int) int

func soonest(n api.StreetNet) step {
	return func(road, at int) int { return at + takesAt(n.Roads[road].Points, at).Lo }
}

func latest(n api.StreetNet) step {
	return func(road, at int) int { return at + takesAt(n.Roads[road].Points, at).Hi }
}

func further(n api.StreetNet) step {
	return func(road, metres int) int { return metres + n.Roads[road].Metres }
}

// along returns the label behind roads, one after the other, from that ahead of them.
func along(next step, label int, roads ...int) int {
	for _, road := range roads {
		label = next(road, label)
	}
	return label
}

// Takes returns how long a road takes at a time.
func Takes(n api.StreetNet, road, at int) (api.Range, api.Errno) {
	if e := check.First(errorOfNet(n), errorOfRoad(n, road), errorOfTime(at)); e != api.OK {
		return api.Range{}, e
	}
	return takesAt(n.Roads[road].Points, at), api.OK
}

func takesAt(points []api.StreetPoint, at int) api.Range {
	time := at % api.Day
	behind := 0
	for behind < len(points) && points[behind].At <= time {
		behind++
	}
	last, next := points[(behind+len(points)-1)%len(points)], points[behind%len(points)]
	all, left := secondsTo(last.At, next.At), secondsTo(time, next.At)
	between := func(from, to int) int { return roundedUp(from*left+to*(all-left), all) }
	return api.Range{Lo: between(last.Takes.Lo, next.Takes.Lo), Hi: between(last.Takes.Hi, next.Takes.Hi)}
}

// roundedUp returns a quotient rounded up; a is not below 0.
func roundedUp(a, b int) int { return (a + b - 1) / b }

// ArrivalOf returns the arrival of a way from a time.
func ArrivalOf(n api.StreetNet, way []int, at int) (api.Range, api.Errno) {
	if e := check.First(errorOfWay(n, way), errorOfTime(at)); e != api.OK {
		return api.Range{}, e
	}
	return arrivalOf(n, way, at), api.OK
}

func arrivalOf(n api.StreetNet, way []int, at int) api.Range {
	return api.Range{Lo: along(soonest(n), at, way...), Hi: along(latest(n), at, way...)}
}

// MetresOf returns the metres of a way.
func MetresOf(n api.StreetNet, way []int) (int, api.Errno) {
	if e := errorOfWay(n, way); e != api.OK {
		return 0, e
	}
	return along(further(n), 0, way...), api.OK
}
