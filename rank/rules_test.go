package rank_test

import (
	"fmt"
	"math"
	"testing"

	"fiacre/api"
	"fiacre/rank"
)

// TestCheckRules is of P4.1.
func TestCheckRules(t *testing.T) {
	none := func(*api.RankRules) {}
	at := func(i int, change func(p *api.RankPlace)) func(r *api.RankRules) {
		return func(r *api.RankRules) { change(&r.Ranks[i]) }
	}
	name := func(i int, s string) func(r *api.RankRules) { return at(i, func(p *api.RankPlace) { p.Name = s }) }
	places := func(i, n int) func(r *api.RankRules) { return at(i, func(p *api.RankPlace) { p.Places = n }) }
	feeder := func(i, n int) func(r *api.RankRules) { return at(i, func(p *api.RankPlace) { p.Feeder = n }) }
	called := func(i int) func(r *api.RankRules) { return at(i, func(p *api.RankPlace) { p.Called = true }) }
	back := func(n int) func(r *api.RankRules) { return func(r *api.RankRules) { r.Back = n } }
	ret := func(n int) func(r *api.RankRules) { return func(r *api.RankRules) { r.Return = n } }
	more := func(n int) func(r *api.RankRules) {
		return func(r *api.RankRules) {
			for i := range n {
				r.Ranks = append(r.Ranks, place(fmt.Sprint("more", i), 1, -1))
			}
		}
	}
	noRanks := func(r *api.RankRules) { r.Ranks = nil }
	type changes = []func(r *api.RankRules)
	for _, x := range []struct {
		what    string
		changes changes
		number  int
		e       api.Errno
	}{
		{"as it is", changes{none}, 0, api.OK},
		{"no ranks", changes{noRanks, back(-2)}, 0, api.ErrShape},
		{"6 ranks", changes{more(1)}, 0, api.OK},
		{"7 ranks", changes{more(2), name(0, "")}, 0, api.ErrLarge},
		{"no name", changes{name(1, "")}, 1, api.ErrName},
		{"a name of 13", changes{name(4, "a234567890123")}, 4, api.ErrName},
		{"a name with a blank, and no places", changes{name(1, "a b"), places(1, 0)}, 1, api.ErrName},
		{"a name twice", changes{name(3, "gate")}, 3, api.ErrExists},
		{"a name twice, and no places", changes{name(3, "gate"), places(3, 0)}, 3, api.ErrExists},
		{"capital letters", changes{name(3, "Gate")}, 0, api.OK},
		{"1 place, and 12", changes{places(0, 1), places(1, 12)}, 0, api.OK},
		{"0 places", changes{places(2, 0)}, 2, api.ErrRange},
		{"places below 0", changes{places(2, -1)}, 2, api.ErrRange},
		{"13 places", changes{places(2, 13)}, 2, api.ErrRange},
		{"0 places ahead of no name", changes{places(0, 0), name(1, "")}, 0, api.ErrRange},
		{"0 places and no feeder", changes{places(0, 0), feeder(0, 5)}, 0, api.ErrRange},
		{"a feeder above all", changes{feeder(0, 5)}, 0, api.ErrMissing},
		{"a feeder far above all", changes{feeder(3, math.MaxInt)}, 3, api.ErrMissing},
		{"a feeder below RankNone", changes{feeder(1, -2)}, 1, api.ErrMissing},
		{"a feeder far below", changes{feeder(4, math.MinInt)}, 4, api.ErrMissing},
		{"itself as its feeder", changes{feeder(1, 1)}, 1, api.ErrOrder},
		{"an earlier feeder", changes{feeder(4, 1)}, 4, api.ErrOrder},
		{"an earlier feeder that feeds another one", changes{feeder(2, 1), feeder(0, 1)}, 2, api.ErrOrder},
		{"a feeder twice", changes{feeder(1, 2)}, 1, api.ErrDouble},
		{"a feeder twice, called", changes{feeder(2, 4), feeder(3, 4)}, 3, api.ErrDouble},
		{"a feeder twice, far from each other", changes{feeder(0, 3), feeder(2, 3)}, 2, api.ErrDouble},
		{"two without a feeder", changes{feeder(0, -1)}, 0, api.OK},
		{"called without a feeder", changes{called(1)}, 1, api.ErrForm},
		{"called without a feeder, ahead of no name", changes{called(1), name(2, "")}, 1, api.ErrForm},
		{"all called", changes{called(0), called(2), called(3)}, 0, api.OK},
		{"called, and no feeder that there is", changes{called(0), feeder(0, 7)}, 0, api.ErrMissing},
		{"back 0", changes{back(0)}, 0, api.OK},
		{"back 12", changes{back(12)}, 0, api.OK},
		{"back 13", changes{back(13)}, 0, api.ErrRange},
		{"back -2", changes{back(-2)}, 0, api.ErrRange},
		{"back -2 behind a wrong rank", changes{back(-2), called(4)}, 4, api.ErrForm},
		{"return 0", changes{ret(0)}, 0, api.OK},
		{"return 3601", changes{ret(3601)}, 0, api.ErrRange},
		{"return -1", changes{ret(-1)}, 0, api.ErrRange},
		{"return 3601 behind a wrong rank", changes{ret(3601), places(1, 0)}, 1, api.ErrRange},
	} {
		r := airport()
		for _, change := range x.changes {
			change(&r)
		}
		if i, e := rank.CheckRules(r); i != x.number || e != x.e {
			t.Errorf("CheckRules, %s: %d, error %d; want %d, error %d", x.what, i, e, x.number, x.e)
		}
		if x.e != api.OK {
			wrongRules(t, x.what, r, x.e)
		}
	}
}

// wrongRules wants the error of rules from all functions that are given rules.
func wrongRules(t *testing.T, what string, r api.RankRules, wanted api.Errno) {
	t.Helper()
	s, x, l := state("-1|x|x:9:9"), event("serve -1 9 -"), make([]api.RankEvent, 201)
	fails(t, "CheckState, "+what, wanted)(0, rank.CheckState(r, s))
	fails(t, "Begin, "+what, wanted)(rank.Begin(r))
	fails(t, "CheckEvent, "+what, wanted)(0, rank.CheckEvent(r, x))
	fails(t, "Apply, "+what, wanted)(rank.Apply(r, s, x))
	fails(t, "Replay, "+what, wanted)(replayed(r, l))
	fails(t, "Possible, "+what, wanted)(rank.Possible(r, s, -1))
	fails(t, "Next, "+what, wanted)(rank.Next(r, s, -1))
	fails(t, "PlaceOf, "+what, wanted)(rank.PlaceOf(r, s, ""))
	fails(t, "Ahead, "+what, wanted)(rank.Ahead(r, s, ""))
	fails(t, "Stays, "+what, wanted)(rank.Stays(r, l))
	fails(t, "Waits, "+what, wanted)(rank.Waits(r, l))
	fails(t, "ServedOf, "+what, wanted)(rank.ServedOf(r, l, ""))
	fails(t, "Spread, "+what, wanted)(rank.Spread(r, l))
	fails(t, "SightingsOf, "+what, wanted)(rank.SightingsOf(r, l))
	if _, i, e := rank.Replay(r, l); i != 0 || e != wanted {
		t.Errorf("Replay, %s: number %d, error %d; want 0, error %d", what, i, e, wanted)
	}
}

// TestBegin is of P4.1.
func TestBegin(t *testing.T) {
	gives(t, "Begin", state("0|||"))(rank.Begin(stand()))
	gives(t, "Begin of five", state("0||||||"))(rank.Begin(airport()))
	for _, r := range []api.RankRules{stand(), airport(), alone(1, 0, 0)} {
		gives(t, "CheckState of the beginning", 0)(0, rank.CheckState(r, first(rank.Begin(r))))
	}
}

// TestCheckState is of P4.1.
func TestCheckState(t *testing.T) {
	forty := func(car string) string {
		s := car + ":0:5"
		for i := range 39 {
			s += fmt.Sprintf(" t%d:%d:5", i, i%2)
		}
		return s
	}
	for _, x := range []struct {
		s string
		e api.Errno
	}{
		{"0|||", api.OK},
		{"604800|a b|c d e|f:0:0 g:1:604800", api.OK},
		{"0|a||", api.OK},
		{"0||", api.ErrShape},
		{"0||||", api.ErrShape},
		{"-1|a a a|", api.ErrShape},
		{"0|a b c||", api.ErrLarge},
		{"0|a b 1||", api.ErrLarge},
		{"0|a b|c d e f|", api.ErrLarge},
		{"0|a 1|c d e f|", api.ErrName},
		{"0|a a|c d e f|", api.ErrExists},
		{"0|a 1|c a|", api.ErrName},
		{"0|a abcdefghijklm||", api.ErrName},
		{"0|a b|c d b|", api.ErrExists},
		{"0|a b|c d c|", api.ErrExists},
		{"0|a B|c d b|", api.OK},
		{"0|a a|1|", api.ErrExists},
		{"5|a b|c|" + forty("f"), api.OK},
		{"5|a b|c|" + forty("f") + " z:0:5", api.ErrLarge},
		{"-5|a b|c|" + forty("1") + " z:0:5", api.ErrLarge},
		{"5|a b|c d c|" + forty("f") + " z:0:5", api.ErrExists},
		{"5|a b|c|1:0:5", api.ErrName},
		{"5|a b|c|:0:5", api.ErrName},
		{"5|a b|c|1:2:6", api.ErrName},
		{"5|a b|c|b:0:5", api.ErrExists},
		{"5|a b|c|c:2:6", api.ErrExists},
		{"5|a b|c|d:0:5 d:0:5", api.ErrExists},
		{"5|a b|c|d:2:5", api.ErrMissing},
		{"5|a b|c|d:-1:5", api.ErrMissing},
		{"5|a b|c|d:2:6", api.ErrMissing},
		{"5|a b|c|d:0:6", api.ErrRange},
		{"5|a b|c|d:0:-1", api.ErrRange},
		{"5|a b|c|d:0:4 e:0:-1", api.ErrRange},
		{"5|a b|c|d:0:4 e:0:3", api.ErrOrder},
		{"5|a b|c|d:0:4 e:0:4", api.OK},
		{"5|a b|c|d:0:4 e:0:3 e:0:5", api.ErrOrder},
		{"5|a b|c|d:0:6 d:0:5", api.ErrRange},
		{"-1|a b||", api.ErrRange},
		{"604801|a b||", api.ErrRange},
		{"604801|a|c|", api.ErrRange},
		{"604801|a b||d:0:604801", api.ErrRange},
		{"-1|a b||d:0:0", api.ErrRange},
		{"5|a|c|", api.ErrState},
		{"5||c|", api.ErrState},
		{"5|a|c|d:0:4 e:0:3", api.ErrOrder},
	} {
		fails(t, "CheckState of "+x.s, x.e)(0, rank.CheckState(stand(), state(x.s)))
		if x.e != api.OK {
			wrongState(t, x.s, stand(), state(x.s), x.e)
		}
	}
}

// wrongState wants the error of a state from all functions that are given one.
func wrongState(t *testing.T, what string, r api.RankRules, s api.RankState, wanted api.Errno) {
	t.Helper()
	fails(t, "Apply, "+what, wanted)(rank.Apply(r, s, event("serve -1 9 -")))
	fails(t, "Possible, "+what, wanted)(rank.Possible(r, s, -1))
	fails(t, "Next, "+what, wanted)(rank.Next(r, s, -1))
	fails(t, "PlaceOf, "+what, wanted)(rank.PlaceOf(r, s, ""))
	fails(t, "Ahead, "+what, wanted)(rank.Ahead(r, s, ""))
}

// TestMovesUp is of P4.1: a state in which a car would move up is none, but who waits for a call stays.
func TestMovesUp(t *testing.T) {
	turned := airport()
	turned.Ranks[2].Called, turned.Ranks[3].Called = true, false
	for _, x := range []struct {
		s            string
		here, turned api.Errno
	}{
		{"0|||||h|", api.OK, api.ErrState},
		{"0||||e||", api.ErrState, api.OK},
		{"0||||e f g|h|", api.ErrState, api.OK},
		{"0|a||c|||", api.ErrState, api.ErrState},
		{"0|a b||c|e||", api.ErrState, api.OK},
		{"0|a b||c d|e||", api.OK, api.OK},
		{"0|a b||c d|e|h|", api.OK, api.ErrState},
		{"0|a b||c d|e f g|h i|", api.OK, api.OK},
		{"0||x|||h|", api.OK, api.ErrState},
	} {
		fails(t, "CheckState of "+x.s, x.here)(0, rank.CheckState(airport(), state(x.s)))
		fails(t, "CheckState of "+x.s+", turned", x.turned)(0, rank.CheckState(turned, state(x.s)))
	}
}
