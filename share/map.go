package share

import (
	"slices"

	"fiacre/api"
	"fiacre/check"
)

// CheckMap returns the first error of a map, and the two places between which the time is that has it.
func CheckMap(m api.ShareMap) ([2]int, api.Errno) {
	switch {
	case len(m.Times) == 0:
		return [2]int{}, api.ErrShape
	case len(m.Times) > api.MaxSharePlaces:
		return [2]int{}, api.ErrLarge
	}
	for from := range m.Times {
		if to, e := checkRow(m, from); e != api.OK {
			return [2]int{from, to}, e
		}
	}
	return [2]int{}, api.OK
}

// checkRow returns the first error of the times from a place, and the place to which the time is that has it.
func checkRow(m api.ShareMap, from int) (int, api.Errno) {
	if len(m.Times[from]) != len(m.Times) {
		return 0, api.ErrShape
	}
	for to, time := range m.Times[from] {
		switch {
		case !isSpan(time):
			return to, api.ErrRange
		case from == to && time != 0:
			return to, api.ErrZero
		}
	}
	return 0, api.OK
}

// FirstShort returns the first three places of which the way from the first one by the second one to the third one is shorter than the direct one.
func FirstShort(m api.ShareMap) ([3]int, api.Errno) {
	if e := errorOfMap(m); e != api.OK {
		return [3]int{}, e
	}
	for from, direct := range m.Times {
		for by, behind := range m.Times {
			for to := range direct {
				if direct[to] > direct[by]+behind[to] {
					return [3]int{from, by, to}, api.OK
				}
			}
		}
	}
	return [3]int{}, api.ErrNone
}

// Closed returns the closed map.
func Closed(m api.ShareMap) (api.ShareMap, api.Errno) {
	if e := errorOfMap(m); e != api.OK {
		return api.ShareMap{}, e
	}
	times := make([][]int, len(m.Times))
	for from, row := range m.Times {
		times[from] = slices.Clone(row)
	}
	// Behind each round, times are the least ones of all ways that come in between to no place but those that had their round.
	for by, behind := range times {
		for _, row := range times {
			for to := range row {
				row[to] = min(row[to], row[by]+behind[to])
			}
		}
	}
	return api.ShareMap{Times: times}, api.OK
}

func errorOfMap(m api.ShareMap) api.Errno {
	_, e := CheckMap(m)
	return e
}

func isPlace(m api.ShareMap, place int) bool { return check.Within(place, 0, len(m.Times)-1) }
