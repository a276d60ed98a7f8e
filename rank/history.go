package rank

import (
	"fiacre/api"
	"fiacre/check"
)

// Replay returns the state behind a log, or the number of the event that is wrong.
func Replay(r api.RankRules, l []api.RankEvent) (api.RankState, int, api.Errno) {
	o, i, e := replay(r, l)
	if e != api.OK {
		return api.RankState{}, i, e
	}
	return o.state, 0, api.OK
}

// replay returns the office behind a log.
func replay(r api.RankRules, l []api.RankEvent) (office, int, api.Errno) {
	if e := errorOfRules(r); e != api.OK {
		return office{}, 0, e
	}
	if len(l) > api.MaxRankEvents {
		return office{}, 0, api.ErrLarge
	}
	o := office{rules: r, state: begin(r)}
	for i, x := range l {
		if e := o.apply(x); e != api.OK {
			return office{}, i, e
		}
	}
	return o, 0, api.OK
}

func errorOfLog(r api.RankRules, l []api.RankEvent) api.Errno {
	_, _, e := replay(r, l)
	return e
}

// Stays returns all stays of a log, in the order in which they began.
func Stays(r api.RankRules, l []api.RankEvent) ([]api.RankStay, api.Errno) {
	if e := errorOfLog(r, l); e != api.OK {
		return nil, e
	}
	var stays []api.RankStay
	last := map[string]int{}
	for i, x := range l {
		switch x.Kind {
		case api.RankArrive:
			last[x.Car] = len(stays)
			stays = append(stays, api.RankStay{Car: x.Car, Came: i, Went: api.RankNone})
		case api.RankServe, api.RankLeave:
			stays[last[x.Car]].Went = i
		case api.RankDecline:
			stays[last[x.Car]].Declines++
		case api.RankReturn:
			stays[last[x.Car]].Went = api.RankNone
		}
	}
	return stays, api.OK
}

// Waits returns how long each car that was taken had waited.
func Waits(r api.RankRules, l []api.RankEvent) ([]api.RankWait, api.Errno) {
	if e := errorOfLog(r, l); e != api.OK {
		return nil, e
	}
	var waits []api.RankWait
	came := map[string]int{}
	for _, x := range l {
		switch x.Kind {
		case api.RankArrive:
			came[x.Car] = x.At
		case api.RankServe:
			waits = append(waits, api.RankWait{Car: x.Car, Rank: x.Rank, Waited: x.At - came[x.Car]})
		}
	}
	return waits, api.OK
}

// ServedOf returns how often a car was taken and did not return.
func ServedOf(r api.RankRules, l []api.RankEvent, car string) (int, api.Errno) {
	if e := check.First(errorOfLog(r, l), errorOfName(car)); e != api.OK {
		return 0, e
	}
	return served(l)[car], api.OK
}

// Spread returns how often the cars that arrived were taken: the least and the greatest number.
func Spread(r api.RankRules, l []api.RankEvent) (api.Range, api.Errno) {
	if e := errorOfLog(r, l); e != api.OK {
		return api.Range{}, e
	}
	if len(l) == 0 {
		return api.Range{}, api.ErrNone
	}
	spread := api.Range{Lo: len(l)}
	for _, n := range served(l) {
		spread = api.Range{Lo: min(spread.Lo, n), Hi: max(spread.Hi, n)}
	}
	return spread, api.OK
}

// served returns of all cars that arrived how often they were taken and did not return.
func served(l []api.RankEvent) map[string]int {
	times := map[string]int{}
	for _, x := range l {
		switch x.Kind {
		case api.RankArrive:
			times[x.Car] += 0
		case api.RankServe:
			times[x.Car]++
		case api.RankReturn:
			times[x.Car]--
		}
	}
	return times
}
