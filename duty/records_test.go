package duty_test

import (
	"fmt"
	"math"
	"math/rand"
	"slices"
	"testing"

	"fiacre/api"
	"fiacre/duty"
)

// limits is the limits of rules one by one.
func limits(r *api.DutyRules) []*int {
	return []*int{&r.Break, &r.Rest, &r.Stint, &r.Shift, &r.Week}
}

// TestCheckRules is of P7.1: the limits of each rule, and a break that is longer than a rest.
func TestCheckRules(t *testing.T) {
	for _, r := range []api.DutyRules{usual(), {Break: 1, Rest: 1, Stint: 1, Shift: 1, Week: 1}, {Break: 2000000, Rest: 2000000, Stint: 2000000, Shift: 2000000, Week: 2000000}} {
		if e := duty.CheckRules(r); e != api.OK {
			t.Errorf("%v: error %d", r, e)
		}
	}
	for i := range limits(&api.DutyRules{}) {
		for _, limit := range []int{0, -1, 2000001, math.MinInt, math.MaxInt} {
			r := usual()
			*limits(&r)[i] = limit
			failsByRules(t, r, api.ErrRange)
			// A limit out of range comes ahead of the order, also one that is behind it.
			r.Break, r.Rest = 3, 2
			*limits(&r)[i] = limit
			failsByRules(t, r, api.ErrRange)
		}
	}
	r := usual()
	r.Break = r.Rest
	if e := duty.CheckRules(r); e != api.OK {
		t.Errorf("a break of a rest: error %d", e)
	}
	r.Break++
	failsByRules(t, r, api.ErrOrder)
}

// failsByRules wants of all functions of rules their error, ahead of all errors of further arguments.
func failsByRules(t *testing.T, r api.DutyRules, e api.Errno) {
	t.Helper()
	if got := duty.CheckRules(r); got != e {
		t.Errorf("CheckRules of %v: error %d, want %d", r, got, e)
	}
	for _, l := range [][]api.DutyRecord{nil, ann(), work("", 0, 1), full(41)} {
		failsByRecords(t, fmt.Sprint(r), e, r, l)
	}
}

// failsByRecords wants of all functions of rules and records an error, ahead of all errors of further arguments.
func failsByRecords(t *testing.T, what string, e api.Errno, r api.DutyRules, l []api.DutyRecord) {
	t.Helper()
	fails(t, "Stints: "+what, e)(duty.Stints(r, l))
	fails(t, "Shifts: "+what, e)(duty.Shifts(r, l))
	fails(t, "FirstBroken: "+what, e)(duty.FirstBroken(r, l))
	for _, trip := range []api.DutyTrip{trip(100000, 1, 2), {Start: -1, Takes: api.Range{Lo: -1, Hi: -2}, Next: -2}} {
		fails(t, "Allowed: "+what, e)(allowed(r, l, trip))
		fails(t, "LongestFrom: "+what, e)(duty.LongestFrom(r, l, trip.Start))
		fails(t, "EarliestStart: "+what, e)(duty.EarliestStart(r, l, trip))
	}
}

// TestCheckRecords is of P7.1: each error of records, which comes ahead of which, and its number.
func TestCheckRecords(t *testing.T) {
	for _, x := range []struct {
		what   string
		change func(l []api.DutyRecord) []api.DutyRecord
		number int
		e      api.Errno
	}{
		{"the records of the examples", func(l []api.DutyRecord) []api.DutyRecord { return l }, 0, api.OK},
		{"none", func(l []api.DutyRecord) []api.DutyRecord { return nil }, 0, api.OK},
		{"records that touch", func(l []api.DutyRecord) []api.DutyRecord { l[1].From = 10000; return l }, 0, api.OK},
		{"all of time", func(l []api.DutyRecord) []api.DutyRecord { return work("a", 0, 8640000000) }, 0, api.OK},
		{"a second", func(l []api.DutyRecord) []api.DutyRecord { return work("a", 8639999999, 8640000000) }, 0, api.OK},
		{"40 records", func(l []api.DutyRecord) []api.DutyRecord { return full(40) }, 0, api.OK},

		{"41 records", func(l []api.DutyRecord) []api.DutyRecord { return full(41) }, 0, api.ErrLarge},
		{"41 records ahead of their names", func(l []api.DutyRecord) []api.DutyRecord { return make([]api.DutyRecord, 41) }, 0, api.ErrLarge},
		{"no name", func(l []api.DutyRecord) []api.DutyRecord { l[0].Driver = ""; return l }, 0, api.ErrName},
		{"a name that is none", func(l []api.DutyRecord) []api.DutyRecord { l[2].Driver = "7"; return l }, 2, api.ErrName},
		{"a long name", func(l []api.DutyRecord) []api.DutyRecord { l[1].Driver = "abcdefghijklm"; return l }, 1, api.ErrName},
		{"a beginning below 0", func(l []api.DutyRecord) []api.DutyRecord { l[0].From = -1; return l }, 0, api.ErrRange},
		{"an end behind all time", func(l []api.DutyRecord) []api.DutyRecord { l[2].To = 8640000001; return l }, 2, api.ErrRange},
		{"a beginning behind all time", func(l []api.DutyRecord) []api.DutyRecord { l[1].From = math.MaxInt; return l }, 1, api.ErrRange},
		{"an end below 0", func(l []api.DutyRecord) []api.DutyRecord { l[1].To = math.MinInt; return l }, 1, api.ErrRange},
		{"no time at all", func(l []api.DutyRecord) []api.DutyRecord { l[2].To = l[2].From; return l }, 2, api.ErrOrder},
		{"an end ahead of the beginning", func(l []api.DutyRecord) []api.DutyRecord { l[0].From = 10001; return l }, 0, api.ErrOrder},
		{"another driver", func(l []api.DutyRecord) []api.DutyRecord { l[1].Driver = "bob"; return l }, 1, api.ErrClash},
		{"another driver at the end", func(l []api.DutyRecord) []api.DutyRecord { l[2].Driver = "Ann"; return l }, 2, api.ErrClash},
		{"an overlap of a second", func(l []api.DutyRecord) []api.DutyRecord { l[2].From = 14999; return l }, 2, api.ErrDouble},
		{"one inside another one", func(l []api.DutyRecord) []api.DutyRecord { l[1].From, l[1].To = 1, 2; return l }, 1, api.ErrDouble},
		{"the same twice", func(l []api.DutyRecord) []api.DutyRecord { return slices.Repeat(l[:1], 2) }, 1, api.ErrDouble},
		{"descending", func(l []api.DutyRecord) []api.DutyRecord { return []api.DutyRecord{l[2], l[0]} }, 1, api.ErrDouble},

		{"names ahead of times", func(l []api.DutyRecord) []api.DutyRecord { l[1] = api.DutyRecord{From: -1, To: -2}; return l }, 1, api.ErrName},
		{"times ahead of their order", func(l []api.DutyRecord) []api.DutyRecord { l[0].From, l[0].To = 5, -1; return l }, 0, api.ErrRange},
		{"the order ahead of the driver", func(l []api.DutyRecord) []api.DutyRecord {
			l[1] = api.DutyRecord{Driver: "bob", From: 3, To: 3}
			return l
		}, 1, api.ErrOrder},
		{"the driver ahead of overlaps", func(l []api.DutyRecord) []api.DutyRecord {
			l[1] = api.DutyRecord{Driver: "bob", From: 3, To: 4}
			return l
		}, 1, api.ErrClash},
		{"one by one", func(l []api.DutyRecord) []api.DutyRecord { l[1].From, l[2].Driver = 9999, ""; return l }, 1, api.ErrDouble},
	} {
		l := x.change(ann())
		at(t, "CheckRecords: "+x.what, x.number, x.e)(duty.CheckRecords(l))
		if x.e != api.OK {
			failsByRecords(t, x.what, x.e, usual(), l)
			fails(t, "WorkIn: "+x.what, x.e)(duty.WorkIn(l, -1, -2))
			fails(t, "Joined: "+x.what, x.e)(duty.Joined(l, []api.DutyRecord{{}}))
			fails(t, "Joined behind right ones: "+x.what, x.e)(duty.Joined(ann(), l))
			fails(t, "Joined behind others: "+x.what, x.e)(duty.Joined(work("bob", 0, 1), l))
		}
	}
}

// TestJoined is of P7.1 and P7.14: all records of both, ascending, in whichever order they are given.
func TestJoined(t *testing.T) {
	for _, x := range []struct {
		what         string
		a, b, wanted []api.DutyRecord
	}{
		{"none", nil, nil, nil},
		{"only one", ann(), nil, ann()},
		{"one behind the other", work("a", 0, 5), work("a", 6, 9), work("a", 0, 5, 6, 9)},
		{"touching", work("a", 0, 5, 8, 9), work("a", 5, 8), work("a", 0, 5, 5, 8, 8, 9)},
		{"in turn", work("a", 10, 20, 30, 40), work("a", 0, 5, 21, 29, 50, 60), work("a", 0, 5, 10, 20, 21, 29, 30, 40, 50, 60)},
		{"as many as there may be", full(40)[:17], full(40)[17:], full(40)},
	} {
		gives(t, x.what, x.wanted)(duty.Joined(x.a, x.b))
		gives(t, x.what+", the other way round", x.wanted)(duty.Joined(x.b, x.a))
	}
	for _, x := range []struct {
		what string
		a, b []api.DutyRecord
		e    api.Errno
	}{
		{"of two drivers", work("a", 0, 5), work("b", 6, 9), api.ErrClash},
		{"of two drivers at once", work("a", 0, 5), work("A", 0, 5), api.ErrClash},
		{"the same", ann(), ann(), api.ErrDouble},
		{"an overlap of a second", work("a", 0, 5), work("a", 4, 9), api.ErrDouble},
		{"one inside", work("a", 0, 9), work("a", 3, 4), api.ErrDouble},
		{"one that begins alike", work("a", 0, 9), work("a", 0, 4), api.ErrDouble},
		{"one that ends alike", work("a", 0, 9), work("a", 8, 9), api.ErrDouble},
		{"an overlap at the end", work("a", 0, 5, 20, 30), work("a", 6, 9, 29, 31), api.ErrDouble},
		{"one over several", work("a", 0, 5, 20, 30, 40, 50), work("a", 5, 45), api.ErrDouble},
		{"too many", full(40), work("ann", 79, 80), api.ErrLarge},
		{"too many by far", full(40), work("ann", 100, 101, 102, 103), api.ErrLarge},
		{"drivers ahead of numbers", full(40), work("bob", 100, 101), api.ErrClash},
		{"overlaps ahead of numbers", full(40), work("ann", 78, 80), api.ErrDouble},
	} {
		fails(t, x.what, x.e)(duty.Joined(x.a, x.b))
		fails(t, x.what+", the other way round", x.e)(duty.Joined(x.b, x.a))
	}
	// Errors of the first list come ahead of those of the second one.
	fails(t, "both are wrong", api.ErrName)(duty.Joined(work("", 0, 1), work("a", -1, 1)))
	fails(t, "both are wrong, the other way round", api.ErrRange)(duty.Joined(work("a", -1, 1), work("", 0, 1)))
}

// TestJoinedParts is of P7.14: records that are told apart in any way and joined are the same again.
func TestJoinedParts(t *testing.T) {
	r := rand.New(rand.NewSource(71))
	for range 500 {
		size := scale(r)
		all := anyRecords(r, anyRules(r, size), 40, size)
		var parts [2][]api.DutyRecord
		for _, x := range all {
			i := r.Intn(2)
			parts[i] = append(parts[i], x)
		}
		gives(t, "Joined", all)(duty.Joined(parts[0], parts[1]))
		gives(t, "Joined the other way round", all)(duty.Joined(parts[1], parts[0]))
		gives(t, "Joined with none", all)(duty.Joined(all, nil))
		gives(t, "none Joined", all)(duty.Joined(nil, all))
		if len(all) == 0 {
			continue
		}
		odd := all[r.Intn(len(all))]
		odd.From += r.Intn(odd.To - odd.From)
		fails(t, "Joined with an overlap", api.ErrDouble)(duty.Joined(all, []api.DutyRecord{odd}))
	}
}

// TestHanded is of P7.6: who drove a car, one behind the other.
func TestHanded(t *testing.T) {
	for _, x := range []struct {
		what   string
		l      []api.DutyRecord
		wanted []string
	}{
		{"nobody", nil, nil},
		{"one", work("a", 0, 5), []string{"a"}},
		{"the same one", ann(), []string{"ann"}},
		{"another one, at once", slices.Concat(work("a", 0, 5), work("b", 5, 6)), []string{"a", "b"}},
		{"one again", slices.Concat(work("a", 0, 5, 5, 6, 7, 8), work("b", 8, 9, 10, 12), work("a", 20, 30), work("A", 40, 50)), []string{"a", "b", "a", "A"}},
		{"as many as there may be", slices.Concat(full(39), work("x", 100, 200)), []string{"ann", "x"}},
	} {
		gives(t, x.what, x.wanted)(duty.Handed(x.l))
	}
	for _, x := range []struct {
		what string
		l    []api.DutyRecord
		e    api.Errno
	}{
		{"too many", full(41), api.ErrLarge},
		{"too many ahead of their names", make([]api.DutyRecord, 41), api.ErrLarge},
		{"no name", slices.Concat(work("a", 0, 5), work("", 6, 7)), api.ErrName},
		{"no name ahead of times", work("", -1, -2), api.ErrName},
		{"no time", work("a", 0, 8640000001), api.ErrRange},
		{"no time ahead of the order", work("a", 5, -1), api.ErrRange},
		{"no time at all", slices.Concat(work("a", 0, 5), work("b", 3, 3)), api.ErrOrder},
		{"an overlap", slices.Concat(work("a", 0, 5), work("b", 4, 7)), api.ErrDouble},
		{"an overlap of one driver", work("a", 0, 5, 4, 7), api.ErrDouble},
		{"one by one", slices.Concat(work("a", 0, 5), work("b", 4, 7), work("", 8, 9)), api.ErrDouble},
	} {
		fails(t, x.what, x.e)(duty.Handed(x.l))
	}
}

// TestHandedTurns is of P7.6: no driver stands twice one behind the other, and each record's driver stands in turn.
func TestHandedTurns(t *testing.T) {
	r := rand.New(rand.NewSource(72))
	for range 300 {
		l := anyRecords(r, usual(), 12, 20)
		var wanted []string
		for i := range l {
			l[i].Driver = []string{"a", "b", "c"}[r.Intn(3)]
			if i == 0 || l[i].Driver != l[i-1].Driver {
				wanted = append(wanted, l[i].Driver)
			}
		}
		gives(t, fmt.Sprint("Handed of ", l), wanted)(duty.Handed(l))
	}
}
