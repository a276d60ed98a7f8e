package found

import (
	"fiacre/api"
	"fiacre/check"
)

// A reward is of so many hundredths of a value up to a limit, and of so many of what is above.
const (
	lowReward  = 5
	highReward = 3
	lowValue   = 50000
)

// Overdue returns the numbers of all items to which the office has the right on a day.
func Overdue(l []api.FoundKept, day int) ([]int, api.Errno) {
	_, e := check.List(len(l), api.MaxFoundKept, func(i int) api.Errno {
		return check.First(errorInList(l, i, thingOfKept), errorOfChain(l[i].Item, l[i].Events))
	})
	if e = check.First(e, errorOfDay(day, 0)); e != api.OK {
		return nil, e
	}
	var numbers []int
	for i, x := range l {
		// An item that is found later is not stored yet, so that it is the owner's.
		if standingAt(x.Item, x.Events, day).right(day) == api.FoundOffice {
			numbers = append(numbers, i)
		}
	}
	return numbers, api.OK
}

// RewardOf returns the reward of the finder of a value.
func RewardOf(value int) (int, api.Errno) {
	if !check.Within(value, 0, api.MaxMoney) {
		return 0, api.ErrRange
	}
	low := min(value, lowValue)
	return (lowReward*low + highReward*(value-low)) / 100, api.OK
}
