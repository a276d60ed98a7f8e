package rank_test

import (
	"fmt"
	"math/rand"
	"slices"
	"testing"

	"fiacre/api"
	"fiacre/rank"
)

// day is the examples 1 to 4, and what comes behind them: a returns, declines, and leaves; c arrives again.
const day = "arrive 0 0 a; arrive 5 0 b; arrive 9 1 c; serve 20 0 a; decline 30 0 b; serve 71 0 c; return 79 0 a;" +
	"decline 80 0 a; decline 81 0 b; leave 90 0 a; arrive 95 0 c; serve 99 0 b; serve 99 0 c"

// TestStays is of P4.4.
func TestStays(t *testing.T) {
	for _, x := range []struct{ l, wanted string }{
		{"", "[]"},
		{"arrive 3 0 a", "[{a 0 -1 0}]"},
		{"arrive 3 0 a; decline 4 0 a; decline 5 0 a", "[{a 0 -1 2}]"},
		{"arrive 3 0 a; serve 4 0 a", "[{a 0 1 0}]"},
		{"arrive 3 0 a; leave 4 0 a; arrive 5 1 a", "[{a 0 1 0} {a 2 -1 0}]"},
		{"arrive 3 0 a; serve 4 0 a; arrive 5 0 a", "[{a 0 1 0} {a 2 -1 0}]"},
		{"arrive 3 0 a; serve 4 0 a; return 5 0 a", "[{a 0 -1 0}]"},
		{"arrive 3 0 a; decline 3 0 a; serve 4 0 a; return 5 0 a; decline 6 0 a; serve 7 0 a", "[{a 0 5 2}]"},
		{"arrive 3 0 a; serve 4 0 a; return 5 0 a; serve 6 0 a; return 7 0 a; leave 8 0 a; arrive 9 0 a; decline 9 0 a", "[{a 0 5 0} {a 6 -1 1}]"},
		{"arrive 1 0 a; arrive 1 0 b; serve 2 0 a; arrive 3 0 a; serve 4 0 b; return 5 0 b", "[{a 0 2 0} {b 1 -1 0} {a 3 -1 0}]"},
		{day, "[{a 0 9 1} {b 1 11 2} {c 2 5 0} {c 10 12 0}]"},
	} {
		gives(t, "Stays of "+x.l, x.wanted)(rank.Stays(stand(), events(x.l)))
	}
}

// TestWaits is of P4.4, and of the example 5.
func TestWaits(t *testing.T) {
	for _, x := range []struct{ l, wanted string }{
		{"", "[]"},
		{"arrive 3 0 a; leave 4 0 a", "[]"},
		{"arrive 0 0 a; arrive 5 0 b; arrive 9 1 c; serve 20 0 a", "[{a 0 20}]"},
		{"arrive 0 0 a; arrive 5 0 b; arrive 9 1 c; arrive 11 1 d; serve 20 1 c; serve 20 0 a", "[{c 1 11} {a 0 20}]"},
		{"arrive 3 0 a; serve 4 0 a; return 10 0 a; serve 30 0 a; return 31 0 a", "[{a 0 1} {a 0 27}]"},
		{"arrive 3 0 a; serve 4 0 a; arrive 10 1 a; serve 30 0 a", "[{a 0 1} {a 0 20}]"},
		{day, "[{a 0 20} {c 0 62} {b 0 94} {c 0 4}]"},
	} {
		gives(t, "Waits of "+x.l, x.wanted)(rank.Waits(stand(), events(x.l)))
	}
}

// TestServed is of P4.4: ServedOf and Spread.
func TestServed(t *testing.T) {
	for _, x := range []struct {
		l       string
		a, b, c int
		spread  string
	}{
		{"arrive 3 0 a", 0, 0, 0, "{0 0}"},
		{"arrive 3 0 a; serve 4 0 a", 1, 0, 0, "{1 1}"},
		{"arrive 3 0 a; arrive 3 0 b; serve 4 0 a", 1, 0, 0, "{0 1}"},
		{"arrive 3 0 a; leave 3 0 a", 0, 0, 0, "{0 0}"},
		{"arrive 3 0 a; serve 4 0 a; return 10 0 a", 0, 0, 0, "{0 0}"},
		{"arrive 3 0 a; serve 4 0 a; return 10 0 a; serve 30 0 a", 1, 0, 0, "{1 1}"},
		{"arrive 3 0 a; serve 4 0 a; arrive 10 0 a; serve 30 0 a; return 30 0 a", 1, 0, 0, "{1 1}"},
		{"arrive 3 0 a; serve 4 0 a; arrive 5 0 a; serve 6 0 a; arrive 7 0 b; serve 8 0 b; arrive 9 0 a; serve 9 0 a", 3, 1, 0, "{1 3}"},
		{day, 0, 1, 2, "{0 2}"},
	} {
		gives(t, "ServedOf a in "+x.l, x.a)(rank.ServedOf(stand(), events(x.l), "a"))
		gives(t, "ServedOf b in "+x.l, x.b)(rank.ServedOf(stand(), events(x.l), "b"))
		gives(t, "ServedOf c in "+x.l, x.c)(rank.ServedOf(stand(), events(x.l), "c"))
		gives(t, "ServedOf z in "+x.l, 0)(rank.ServedOf(stand(), events(x.l), "z"))
		gives(t, "Spread of "+x.l, x.spread)(rank.Spread(stand(), events(x.l)))
	}
	gives(t, "ServedOf a in nothing", 0)(rank.ServedOf(stand(), nil, "a"))
	fails(t, "Spread of nothing", api.ErrNone)(rank.Spread(stand(), nil))
	for _, car := range []string{"", "7", "a b", "abcdefghijklm"} {
		fails(t, "ServedOf "+car, api.ErrName)(rank.ServedOf(stand(), events(day), car))
	}
}

// TestAnyHistory is of P4.4: on random logs, all is as a look at each event tells.
func TestAnyHistory(t *testing.T) {
	r := rand.New(rand.NewSource(3))
	for range 400 {
		rules := anyRules(r)
		l := anyLog(r, rules, r.Intn(80), allKinds...)
		gives(t, fmt.Sprint("Stays of ", rules, l), slowStays(l))(rank.Stays(rules, l))
		gives(t, fmt.Sprint("Waits of ", rules, l), slowWaits(l))(rank.Waits(rules, l))
		counts := map[string]int{}
		for i, x := range l {
			counts[x.Car] += slowServed(l, i)
		}
		delete(counts, "")
		spread := api.Range{Lo: 999}
		for car, n := range counts {
			gives(t, fmt.Sprint("ServedOf ", car, rules, l), n)(rank.ServedOf(rules, l, car))
			spread = api.Range{Lo: min(spread.Lo, n), Hi: max(spread.Hi, n)}
		}
		if len(counts) > 0 {
			gives(t, fmt.Sprint("Spread of ", rules, l), spread)(rank.Spread(rules, l))
		}
	}
}

// nextOf returns the next event of a car behind the event i, of one of some kinds, or -1.
func nextOf(l []api.RankEvent, i int, kinds ...int) int {
	for j := i + 1; j < len(l); j++ {
		if l[j].Car == l[i].Car && slices.Contains(kinds, l[j].Kind) {
			return j
		}
	}
	return -1
}

// slowServed returns 1 if a car was taken with the event i and did not return behind it before it arrived again.
func slowServed(l []api.RankEvent, i int) int {
	next := nextOf(l, i, api.RankArrive, api.RankReturn)
	if l[i].Kind != api.RankServe || next >= 0 && l[next].Kind == api.RankReturn {
		return 0
	}
	return 1
}

func slowStays(l []api.RankEvent) []api.RankStay {
	var stays []api.RankStay
	for i, x := range l {
		if x.Kind != api.RankArrive {
			continue
		}
		stay := api.RankStay{Car: x.Car, Came: i, Went: -1}
		for j := nextOf(l, i, 0, 1, 2, 3, 5); j >= 0 && l[j].Kind != api.RankArrive; j = nextOf(l, j, 0, 1, 2, 3, 5) {
			if l[j].Kind == api.RankDecline {
				stay.Declines++
			}
			if l[j].Kind == api.RankLeave || slowServed(l, j) == 1 {
				stay.Went = j
			}
		}
		stays = append(stays, stay)
	}
	return stays
}

func slowWaits(l []api.RankEvent) []api.RankWait {
	var waits []api.RankWait
	for i, x := range l {
		if x.Kind != api.RankServe {
			continue
		}
		came := i
		for l[came].Kind != api.RankArrive || l[came].Car != x.Car {
			came--
		}
		waits = append(waits, api.RankWait{Car: x.Car, Rank: x.Rank, Waited: x.At - l[came].At})
	}
	return waits
}

// TestFirstServed is of P4.9: if nobody declines, leaves or returns, cars are taken from a rank without a feeder in the order in which they arrived.
func TestFirstServed(t *testing.T) {
	r, looked := rand.New(rand.NewSource(4)), 0
	for range 500 {
		rules := anyRules(r)
		l := anyLog(r, rules, 80, api.RankArrive, api.RankServe, api.RankCall)
		for i, p := range rules.Ranks {
			if p.Feeder != api.RankNone {
				continue
			}
			var came []int
			for j, x := range l {
				if x.Kind == api.RankServe && x.Rank == i {
					looked++
					came = append(came, slices.IndexFunc(first(rank.Stays(rules, l)), func(s api.RankStay) bool { return s.Went == j }))
				}
			}
			if !slices.IsSorted(came) {
				t.Errorf("%v, %v: taken from %d are the stays %v", rules, l, i, came)
			}
		}
	}
	if looked < 100 {
		t.Errorf("only %d cars were taken", looked)
	}
}
