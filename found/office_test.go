package found_test

import (
	"fmt"
	"math"
	"math/rand"
	"slices"
	"testing"

	"fiacre/api"
	"fiacre/found"
)

// keptOf is an item with events.
func keptOf(x api.FoundItem, l ...api.FoundEvent) api.FoundKept {
	return api.FoundKept{Item: x, Events: l}
}

// shelf is so many items that were stored on the day 20, one after the other named i0, i1 and so on.
func shelf(many int) []api.FoundKept {
	var l []api.FoundKept
	for _, x := range numbered(many) {
		l = append(l, keptOf(x, api.FoundEvent{Item: x.Name, Day: 20, From: "ann", To: "office"}))
	}
	return l
}

// TestOverdue is of P9.5 and P9.10: items of each state, on the days around the deadlines.
func TestOverdue(t *testing.T) {
	other := func(x api.FoundKept, name string) api.FoundKept {
		x.Item.Name = name
		x.Events = slices.Clone(x.Events)
		for i := range x.Events {
			x.Events[i].Item = name
		}
		return x
	}
	l := []api.FoundKept{
		other(keptOf(hat()), "out"),
		other(keptOf(hat(), kept()...), "hat"),
		other(keptOf(hat(), kept(event(205, api.FoundTaken, "depot", "ann"))...), "taken"),
		other(keptOf(hat(), kept(event(300, api.FoundReturned, "depot", "cid"))...), "returned"),
		other(keptOf(hat(), kept(event(231, api.FoundSold, "depot", "bob"))...), "sold"),
		other(keptOf(hat(), event(25, api.FoundStored, "ann", "office")), "later"),
		other(keptOf(item("hat", 600, "ann"), event(600, api.FoundStored, "ann", "office")), "new"),
	}
	for day, wanted := range map[int]string{
		0: "[]", 9: "[]", 10: "[]", 230: "[]", 231: "[1 3]", 235: "[1 3]", 236: "[1 3 5]", 299: "[1 3 5]",
		300: "[1 5]", 599: "[1 5]", 600: "[1 5]", 810: "[1 5]", 811: "[1 5 6]", 100000: "[1 5 6]",
	} {
		gives(t, fmt.Sprint("on ", day), wanted)(found.Overdue(l, day))
	}
	gives(t, "the examples", "[0]")(found.Overdue([]api.FoundKept{keptOf(hat(), kept()...)}, 231))
	gives(t, "none", "[]")(found.Overdue(nil, 5))
	gives(t, "forty", "[]")(found.Overdue(shelf(40), 230))
	gives(t, "forty, a day later", fmt.Sprint(below(40)))(found.Overdue(shelf(40), 231))
}

// below returns all numbers below a limit.
func below(limit int) []int {
	var numbers []int
	for i := range limit {
		numbers = append(numbers, i)
	}
	return numbers
}

// TestOverdueErrors is of P9.5: each error, and which comes ahead of which.
func TestOverdueErrors(t *testing.T) {
	for _, day := range []int{math.MinInt, -1, 100001, math.MaxInt} {
		fails(t, fmt.Sprint("on ", day), api.ErrRange)(found.Overdue(shelf(2), day))
		fails(t, fmt.Sprint("none on ", day), api.ErrRange)(found.Overdue(nil, day))
	}
	fails(t, "too many", api.ErrLarge)(found.Overdue(shelf(41), 5))
	fails(t, "too many ahead of their errors", api.ErrLarge)(found.Overdue(make([]api.FoundKept, 41), -1))
	for _, x := range wrongItems() {
		// The name of hat is there already, the chain is too long, and the day is none: the item's error comes ahead.
		fails(t, x.what, x.e)(found.Overdue([]api.FoundKept{keptOf(hat()), keptOf(x.item, make([]api.FoundEvent, 31)...)}, -1))
	}
	for _, x := range wrongChains() {
		fails(t, x.what, x.e)(found.Overdue(append(shelf(3), keptOf(hat(), x.l...)), -1))
		fails(t, x.what+" behind a name twice", api.ErrExists)(found.Overdue([]api.FoundKept{keptOf(hat()), keptOf(hat(), x.l...)}, -1))
		fails(t, x.what+" ahead of another one's error", x.e)(found.Overdue([]api.FoundKept{keptOf(hat(), x.l...), {}}, -1))
	}
	fails(t, "a name twice", api.ErrExists)(found.Overdue(append(shelf(39), shelf(1)...), 5))
}

// TestAnyOverdue is of P9.5 and P9.10: random items, of which those are overdue to which the office has the right.
func TestAnyOverdue(t *testing.T) {
	r := rand.New(rand.NewSource(109))
	overdue := 0
	for range 2000 {
		var l []api.FoundKept
		for i := range r.Intn(8) {
			x, events := anyChain(r, 6)
			x.Name = fmt.Sprint("i", i)
			for j := range events {
				events[j].Item = x.Name
			}
			l = append(l, keptOf(x, events...))
		}
		day := []int{5, 25, 200, 250, 400, 900}[r.Intn(6)] + r.Intn(30)
		var wanted []int
		for i, x := range l {
			if slowRight(slowDays(x.Events, day), day) == api.FoundOffice {
				wanted = append(wanted, i)
			}
		}
		gives(t, fmt.Sprint(l, " on ", day), fmt.Sprint(wanted))(found.Overdue(l, day))
		overdue += len(wanted)
	}
	if overdue < 300 {
		t.Errorf("too few items are overdue: %d", overdue)
	}
}

// TestRewardOf is of P9.5: rewards below and above the limit, rounded down together.
func TestRewardOf(t *testing.T) {
	for value, wanted := range map[int]int{
		0: 0, 1: 0, 19: 0, 20: 1, 39: 1, 40: 2, 99: 4, 100: 5, 49999: 2499, 50000: 2500, 50001: 2500, 50033: 2500, 50034: 2501,
		50066: 2501, 50067: 2502, 50100: 2503, 60000: 2800, 1000000000: 30001000, 999999999: 30000999,
	} {
		gives(t, fmt.Sprint(value), wanted)(found.RewardOf(value))
	}
	for _, value := range []int{math.MinInt, -100, -1, 1000000001, math.MaxInt} {
		fails(t, fmt.Sprint(value), api.ErrRange)(found.RewardOf(value))
	}
}

// TestRewardsGrow is of P9.11: a reward is at most 5 hundredths of the value, and never falls as the value grows.
func TestRewardsGrow(t *testing.T) {
	before := 0
	for value := range 200000 {
		reward, e := found.RewardOf(value)
		if e != api.OK || reward < before || 100*reward > 5*value {
			t.Errorf("the reward of %d is %d, of less %d, error %d", value, reward, before, e)
		}
		before = reward
	}
	r := rand.New(rand.NewSource(110))
	for range 10000 {
		value := r.Intn(1000000000)
		less, more := first(found.RewardOf(value)), first(found.RewardOf(value+1+r.Intn(1000000000-value)))
		if less > more || 100*less > 5*value {
			t.Errorf("the reward of %d is %d, of more %d", value, less, more)
		}
	}
}
