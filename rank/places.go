package rank

import (
	"fiacre/api"
	"fiacre/check"
)

// Possible returns all events at a time with which a rank is served, its first car declines, or a car is called.
func Possible(r api.RankRules, s api.RankState, at int) ([]api.RankEvent, api.Errno) {
	if e := CheckState(r, s); e != api.OK {
		return nil, e
	}
	switch {
	case !isTime(at):
		return nil, api.ErrRange
	case at < s.At:
		return nil, api.ErrOrder
	}
	var all []api.RankEvent
	for rank, queue := range s.Queues {
		var events []api.RankEvent
		if len(queue) > 0 {
			events = append(events,
				api.RankEvent{Kind: api.RankServe, At: at, Rank: rank, Car: queue[0]},
				api.RankEvent{Kind: api.RankDecline, At: at, Rank: rank, Car: queue[0]})
		}
		for _, x := range append(events, api.RankEvent{Kind: api.RankCall, At: at, Rank: rank}) {
			if _, e := Apply(r, s, x); e == api.OK {
				all = append(all, x)
			}
		}
	}
	return all, api.OK
}

// Next returns the first car of a rank.
func Next(r api.RankRules, s api.RankState, rank int) (string, api.Errno) {
	if e := check.First(CheckState(r, s), errorOfRank(r, rank)); e != api.OK {
		return "", e
	}
	if len(s.Queues[rank]) == 0 {
		return "", api.ErrNone
	}
	return s.Queues[rank][0], api.OK
}

// PlaceOf returns where a car is.
func PlaceOf(r api.RankRules, s api.RankState, car string) (api.RankSpot, api.Errno) {
	if e := check.First(CheckState(r, s), errorOfName(car)); e != api.OK {
		return api.RankSpot{}, e
	}
	spot, queued := spotsOf(s)[car]
	if !queued {
		return api.RankSpot{}, api.ErrMissing
	}
	return spot, api.OK
}

// spotsOf returns where the cars of all queues are.
func spotsOf(s api.RankState) map[string]api.RankSpot {
	spots := map[string]api.RankSpot{}
	for rank, queue := range s.Queues {
		for place, car := range queue {
			spots[car] = api.RankSpot{Rank: rank, Place: place}
		}
	}
	return spots
}

// Ahead returns the cars ahead of a car in its rank, and in those that its rank feeds.
func Ahead(r api.RankRules, s api.RankState, car string) ([]string, api.Errno) {
	spot, e := PlaceOf(r, s, car)
	if e != api.OK {
		return nil, e
	}
	var ahead []string
	ahead = append(ahead, s.Queues[spot.Rank][:spot.Place]...)
	for rank := fedBy(r.Ranks, spot.Rank); rank != api.RankNone; rank = fedBy(r.Ranks, rank) {
		ahead = append(ahead, s.Queues[rank]...)
	}
	return ahead, api.OK
}
