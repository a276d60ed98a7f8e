package rank

import (
	"fiacre/api"
	"fiacre/check"
	"fiacre/words"
)

// Overtaken returns the first car that was overtaken: the sightings with which it came, another one came, and this one was taken.
func Overtaken(l []api.RankSighting) ([3]int, api.Errno) {
	if len(l) > api.MaxRankEvents {
		return [3]int{}, api.ErrLarge
	}
	for _, x := range l {
		if e := errorOfSighting(x); e != api.OK {
			return [3]int{}, e
		}
	}
	for k := range l {
		if triple, ok := overtakenBy(l, k); ok {
			return triple, api.OK
		}
	}
	return [3]int{}, api.ErrNone
}

func errorOfSighting(x api.RankSighting) api.Errno {
	switch {
	case !isSeen(x.Kind):
		return api.ErrKind
	case !check.Within(x.Rank, 0, api.MaxRankRanks-1):
		return api.ErrRange
	case !words.IsName(x.Car):
		return api.ErrName
	}
	return api.OK
}

// isSeen tells whether sightings can be of a kind.
func isSeen(kind int) bool {
	switch kind {
	case api.RankArrive, api.RankServe, api.RankDecline, api.RankLeave:
		return true
	}
	return false
}

// overtakenBy returns the first car that is overtaken by the one that is taken with the sighting k.
func overtakenBy(l []api.RankSighting, k int) ([3]int, bool) {
	j := before(l, k, l[k].Car)
	if l[k].Kind != api.RankServe || j < 0 || l[j].Kind != api.RankArrive {
		return [3]int{}, false
	}
	for i, x := range l[:j] {
		if x.Kind == api.RankArrive && x.Rank == l[k].Rank && before(l, k, x.Car) == i {
			return [3]int{i, j, k}, true
		}
	}
	return [3]int{}, false
}

// before returns the last sighting of a car ahead of the sighting k, at its rank, or a number below 0.
func before(l []api.RankSighting, k int, car string) int {
	for i := k - 1; i >= 0; i-- {
		if l[i].Car == car && l[i].Rank == l[k].Rank {
			return i
		}
	}
	return -1
}

// SightingsOf returns what is seen of a log.
func SightingsOf(r api.RankRules, l []api.RankEvent) ([]api.RankSighting, api.Errno) {
	o, _, e := replay(r, l)
	if e != api.OK {
		return nil, e
	}
	if len(o.seen) > api.MaxRankEvents {
		return nil, api.ErrLarge
	}
	return o.seen, api.OK
}
