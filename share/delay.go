package share

import (
	"sort"

	"fiacre/api"
)

// Delayed returns the times of all stops with a delay.
func Delayed(m api.ShareMap, p api.SharePlan, x api.ShareDelay) ([]int, api.Errno) {
	return comesTo(m, p, func(t tour) ([]int, api.Errno) {
		if e := errorOfNumber(x.Stop, len(t.Stops)); e != api.OK {
			return nil, e
		}
		if !isSpan(x.By) {
			return nil, api.ErrRange
		}
		return driveLate(m, p, x).times, api.OK
	})
}

// GreatestDelay returns the greatest delay of a stop with which a plan keeps its limits.
func GreatestDelay(m api.ShareMap, p api.SharePlan, stop int) (int, api.Errno) {
	return comesTo(m, p, func(t tour) (int, api.Errno) {
		if e := errorOfNumber(stop, len(t.Stops)); e != api.OK {
			return 0, e
		}
		if !t.keepsLimits() {
			return 0, api.ErrBreak
		}
		// No ride that begins at the stop or behind it gets longer by a delay, and no other one shorter by a greater delay; so the search may halve.
		return sort.Search(api.MaxShareTime, func(by int) bool {
			return !driveLate(m, p, api.ShareDelay{Stop: stop, By: by + 1}).keepsLimits()
		}), api.OK
	})
}
