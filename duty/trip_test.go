package duty_test

import (
	"fmt"
	"math"
	"math/rand"
	"slices"
	"testing"

	"fiacre/api"
	"fiacre/duty"
)

// TestTripExamples is of P7.4, by the document's examples.
func TestTripExamples(t *testing.T) {
	x := trip(20000, 5000, 13000)
	gives(t, "the trip of the examples", answer{api.AnswerMaybe, api.DutyStint})(allowed(usual(), ann(), x))
	gives(t, "the longest trip", 12200)(duty.LongestFrom(usual(), ann(), 20000))
	gives(t, "the earliest start", 20900)(duty.EarliestStart(usual(), ann(), x))
	x.Next = 60000
	gives(t, "with a next shift", answer{api.AnswerNo, api.DutyStint})(allowed(usual(), ann(), x))
	x.Takes = api.Range{Lo: 3000, Hi: 4000}
	gives(t, "a short trip", answer{api.AnswerYes, api.DutyNone})(allowed(usual(), ann(), x))
	x.Takes.Hi++
	gives(t, "a second longer", answer{api.AnswerMaybe, api.DutyNext})(allowed(usual(), ann(), x))
}

// TestAllowed is of P7.4: each rule just kept and just broken by a trip, and trips of no length.
func TestAllowed(t *testing.T) {
	r := api.DutyRules{Break: 10, Rest: 100, Stint: 50, Shift: 200, Week: 300}
	l := work("a", 1000, 1020, 1050, 1080)
	next := func(x api.DutyTrip, next int) api.DutyTrip {
		x.Next = next
		return x
	}
	yes, maybe, no := api.AnswerYes, api.AnswerMaybe, api.AnswerNo
	for _, x := range []struct {
		what       string
		l          []api.DutyRecord
		t          api.DutyTrip
		is, broken int
	}{
		{"a stint just long enough", l, trip(1085, 1, 20), yes, 0},
		{"a stint a second longer", l, trip(1085, 1, 21), maybe, api.DutyStint},
		{"a stint longer in any case", l, trip(1085, 21, 21), no, api.DutyStint},
		{"one stint, by a second", l, trip(1089, 20, 50), maybe, api.DutyStint},
		{"another stint", l, trip(1090, 20, 50), yes, 0},
		{"at once", l, trip(1080, 20, 20), yes, 0},
		{"a shift just long enough", l, trip(1165, 1, 35), yes, 0},
		{"a shift a second longer", l, trip(1165, 1, 36), maybe, api.DutyShift},
		{"a shift longer in any case", l, trip(1165, 36, 37), no, api.DutyShift},
		{"another shift", l, trip(1180, 50, 50), yes, 0},
		{"the stint ahead of the shift", l, trip(1165, 36, 51), no, api.DutyStint},
		{"a rest just long enough", l, next(trip(1090, 0, 30), 1220), yes, 0},
		{"a rest a second shorter", l, next(trip(1090, 0, 30), 1219), maybe, api.DutyNext},
		{"a rest shorter in any case", l, next(trip(1090, 30, 30), 1219), no, api.DutyNext},
		{"the stint ahead of the rest", l, next(trip(1090, 0, 51), 1190), maybe, api.DutyStint},
		{"a next shift in the past", l, next(trip(1090, 0, 0), 0), no, api.DutyNext},
		{"a next shift at the end of time", l, next(trip(1090, 0, 50), 8640000000), yes, 0},
		{"no length, within a stint", l, trip(1080, 0, 0), yes, 0},
		{"no length, in too long a shift", l, trip(1179, 0, 0), yes, 0},
		{"no length or a second, in a shift just long enough", work("a", 0, 40, 110, 150), trip(199, 0, 1), yes, 0},
		{"no length or a second, in too long a shift", work("a", 0, 40, 110, 150), trip(200, 0, 1), maybe, api.DutyShift},
		{"a second, in too long a shift", work("a", 0, 40, 110, 150), trip(200, 1, 1), no, api.DutyShift},
		{"no length far behind, in too long a shift", work("a", 0, 40, 110, 150), trip(249, 0, 0), yes, 0},
		{"no length, and too little rest", l, next(trip(1080, 0, 0), 1179), no, api.DutyNext},
		{"no length, and just rest enough", l, next(trip(1080, 0, 0), 1180), yes, 0},
		{"no records", nil, trip(0, 0, 50), yes, 0},
		{"no records, too long", nil, trip(0, 50, 51), maybe, api.DutyStint},
		{"the end of time", nil, trip(8640000000, 50, 50), yes, 0},
		{"too long behind the end of time", nil, trip(8640000000, 51, 200000), no, api.DutyStint},
		{"39 records", full(39), trip(78, 0, 11), yes, 0},
		{"39 records, too long", full(39), trip(78, 0, 12), maybe, api.DutyStint},
	} {
		gives(t, x.what, answer{x.is, x.broken})(allowed(r, x.l, x.t))
	}
	week := api.DutyRules{Break: 10, Rest: 100, Stint: 2000000, Shift: 2000000, Week: 1000}
	old := work("a", 1000, 1900)
	for _, x := range []struct {
		what       string
		t          api.DutyTrip
		is, broken int
	}{
		{"a week just long enough", trip(5000, 100, 100), yes, 0},
		{"a week a second longer", trip(5000, 100, 101), maybe, api.DutyWeek},
		{"a week longer in any case", trip(5000, 101, 102), no, api.DutyWeek},
		{"work that is just a week old", trip(605800, 0, 100), yes, 0},
		{"work of which a part is too old", trip(606000, 0, 1000), yes, 0},
		{"work of which a part is too old when the trip ends", trip(605800, 0, 200), yes, 0},
		{"no week of work", trip(606699, 0, 1000), yes, 0},
		{"more than a week of work", trip(606700, 0, 1001), maybe, api.DutyWeek},
	} {
		gives(t, x.what, answer{x.is, x.broken})(allowed(week, old, x.t))
	}
}

// TestTripErrors is of P7.4: each error of a trip, and which one comes ahead of which.
func TestTripErrors(t *testing.T) {
	short := usual()
	short.Stint = 14499
	odd := []int{-1, 8640000001, math.MinInt, math.MaxInt}
	for _, start := range odd {
		failsByTrip(t, api.ErrRange, usual(), ann(), trip(start, 1, 2))
		fails(t, "LongestFrom no time", api.ErrRange)(duty.LongestFrom(usual(), ann(), start))
		fails(t, "LongestFrom no time behind broken rules", api.ErrRange)(duty.LongestFrom(short, ann(), start))
		fails(t, "LongestFrom no time behind 40 records", api.ErrFull)(duty.LongestFrom(short, full(40), start))
	}
	for _, takes := range []int{-1, 200001, math.MinInt, math.MaxInt} {
		failsByTrip(t, api.ErrRange, usual(), ann(), trip(20000, takes, 5))
		failsByTrip(t, api.ErrRange, usual(), ann(), trip(20000, 5, takes))
	}
	for _, next := range []int{-2, 8640000001, math.MinInt, math.MaxInt} {
		failsByTrip(t, api.ErrRange, usual(), ann(), api.DutyTrip{Start: 20000, Next: next})
		failsByTrip(t, api.ErrOrder, usual(), ann(), api.DutyTrip{Start: 20000, Takes: api.Range{Lo: 6, Hi: 5}, Next: next})
		failsByTrip(t, api.ErrRange, short, ann(), api.DutyTrip{Start: 0, Next: next})
	}
	failsByTrip(t, api.ErrOrder, usual(), ann(), trip(20000, 6, 5))
	failsByTrip(t, api.ErrOrder, usual(), ann(), trip(0, 200000, 0))
	failsByTrip(t, api.ErrRange, usual(), ann(), trip(-1, 6, 5))
	failsByTrip(t, api.ErrDouble, usual(), ann(), trip(19999, 0, 0))
	failsByTrip(t, api.ErrDouble, usual(), ann(), trip(0, 5, 6))
	failsByTrip(t, api.ErrDouble, short, ann(), trip(19999, 5, 6))
	failsByTrip(t, api.ErrDouble, usual(), ann()[:1], trip(9999, 5, 6))
	failsByTrip(t, api.ErrState, short, ann(), trip(20000, 5, 6))
	failsByTrip(t, api.ErrState, short, ann(), trip(2000000, 0, 0))
	failsByTrip(t, api.ErrFull, usual(), full(40), trip(1000, 5, 6))
	failsByTrip(t, api.ErrFull, usual(), full(40), trip(-1, 6, 5))
	failsByTrip(t, api.ErrFull, short, full(40), trip(0, 5, 6))
	failsByTrip(t, api.ErrLarge, usual(), full(41), trip(1000, 5, 6))
	for _, start := range []int{0, 19999} {
		fails(t, "LongestFrom ahead of the last end", api.ErrDouble)(duty.LongestFrom(short, ann(), start))
	}
	fails(t, "LongestFrom behind broken rules", api.ErrState)(duty.LongestFrom(short, ann(), 20000))
}

// failsByTrip wants of both functions of a trip its error.
func failsByTrip(t *testing.T, e api.Errno, r api.DutyRules, l []api.DutyRecord, x api.DutyTrip) {
	t.Helper()
	fails(t, fmt.Sprint("Allowed: ", x), e)(allowed(r, l, x))
	fails(t, fmt.Sprint("EarliestStart: ", x), e)(duty.EarliestStart(r, l, x))
}

// TestRestsAreKept is of P7.4 and P7.9: what Allowed answers holds with each length, by the records with the trip.
func TestRestsAreKept(t *testing.T) {
	r := rand.New(rand.NewSource(76))
	var answers [3]int
	var rules [5]int
	for range 5000 {
		size := scale(r)
		x := anyRules(r, size)
		l := keptRecords(r, x, 12, size)
		trip := anyTrip(r, x, l, size)
		what := fmt.Sprint("Allowed of ", x, l, trip)
		got, e := allowed(x, l, trip)
		wanted := answer{api.AnswerNo, slowBrokenBy(x, l, trip, trip.Takes.Hi)}
		if surely(x, l, trip) {
			wanted.Answer = api.AnswerYes
		} else if slowBrokenBy(x, l, trip, trip.Takes.Lo) == api.DutyNone {
			wanted.Answer = api.AnswerMaybe
		}
		gives(t, what, wanted)(got, e)
		answers[got.Answer]++
		rules[got.Rule]++
		for range 10 {
			length := trip.Takes.Lo + r.Intn(trip.Takes.Hi-trip.Takes.Lo+1)
			if kept := keeps(x, l, trip, length); got.Answer == api.AnswerYes && !kept || got.Answer == api.AnswerNo && kept {
				t.Errorf("%s: %v, but with the length %d rules are kept: %t", what, got, length, kept)
			}
		}
	}
	if slices.Min(answers[:]) < 200 || slices.Min(rules[:]) < 100 {
		t.Errorf("the answers %v and the rules %v are too seldom", answers, rules)
	}
}

// keeps tells by FirstBroken whether the records with a trip of a length keep the rules, and there is rest enough before Next.
func keeps(r api.DutyRules, l []api.DutyRecord, t api.DutyTrip, length int) bool {
	end := t.Start + length
	if t.Next != -1 && t.Next < end+r.Rest {
		return false
	}
	if length == 0 {
		return true
	}
	_, e := duty.FirstBroken(r, append(slices.Clone(l), api.DutyRecord{Driver: "n", From: t.Start, To: end}))
	return e == api.ErrNone
}

// TestLongestFrom is of P7.4: by the rules one by one.
func TestLongestFrom(t *testing.T) {
	r := api.DutyRules{Break: 10, Rest: 100, Stint: 50, Shift: 200, Week: 300}
	l := work("a", 0, 20, 50, 80)
	for start, longest := range map[int]int{80: 20, 89: 20, 90: 50, 150: 50, 160: 40, 179: 21, 180: 50, 8640000000: 50} {
		gives(t, fmt.Sprint("LongestFrom ", start), longest)(duty.LongestFrom(r, l, start))
	}
	gives(t, "LongestFrom in a stint that is as long as it may be", 0)(duty.LongestFrom(r, work("a", 0, 50), 59))
	gives(t, "LongestFrom in a shift that is as long as it may be", 0)(duty.LongestFrom(r, work("a", 0, 40, 110, 150), 200))
	gives(t, "LongestFrom in a shift that is as long as it may be, but for a second", 1)(duty.LongestFrom(r, work("a", 0, 40, 110, 150), 199))
	gives(t, "LongestFrom behind a shift that is as long as it may be", 0)(duty.LongestFrom(r, work("a", 0, 40, 110, 150), 249))
	gives(t, "LongestFrom behind a rest", 50)(duty.LongestFrom(r, work("a", 0, 40, 110, 150), 250))
	most := api.DutyRules{Break: 1, Rest: 1, Stint: 200001, Shift: 200001, Week: 200001}
	gives(t, "LongestFrom with limits that are longer", 200000)(duty.LongestFrom(most, nil, 0))
	most.Week = 200000
	gives(t, "LongestFrom with a limit that is just as long", 200000)(duty.LongestFrom(most, nil, 0))
	most.Week--
	gives(t, "LongestFrom with a limit that is a second shorter", 199999)(duty.LongestFrom(most, nil, 0))
	gives(t, "LongestFrom in a week that is as long as it may be", 0)(duty.LongestFrom(most, work("a", 0, 199999), 604800-1))
	gives(t, "LongestFrom when the week begins to be over", 199999)(duty.LongestFrom(most, work("a", 0, 199999), 604800))
}

// TestJustSoLong is of P7.10: with the greatest length no rule is broken, nor with a lesser one; a second longer one is.
func TestJustSoLong(t *testing.T) {
	r := rand.New(rand.NewSource(77))
	least, most := 0, 0
	for range 3000 {
		size := scale(r)
		x := anyRules(r, size)
		l := keptRecords(r, x, 12, size)
		trip := anyTrip(r, x, l, size)
		trip.Next = -1
		longest, e := duty.LongestFrom(x, l, trip.Start)
		what := fmt.Sprint("LongestFrom of ", x, l, trip.Start)
		if e != api.OK || longest < 0 || longest > api.MaxDutyTakes {
			t.Fatalf("%s: %d, error %d", what, longest, e)
		}
		for _, length := range []int{0, min(1, longest), r.Intn(longest + 1), r.Intn(longest + 1), longest} {
			if rule := slowBrokenBy(x, l, trip, length); rule != api.DutyNone {
				t.Errorf("%s: %d, but with %d the rule %d is broken", what, longest, length, rule)
			}
		}
		if longest == api.MaxDutyTakes {
			most++
		} else if slowBrokenBy(x, l, trip, longest+1) == api.DutyNone {
			t.Errorf("%s: %d, but with a second more no rule is broken", what, longest)
		}
		if longest == 0 {
			least++
		}
	}
	if least < 50 || most < 50 {
		t.Errorf("too few lengths at the ends: %d, %d", least, most)
	}
}

// TestEarliestStart is of P7.4: what a trip has to wait for, and when it waits in vain.
func TestEarliestStart(t *testing.T) {
	r := api.DutyRules{Break: 10, Rest: 100, Stint: 50, Shift: 200, Week: 300}
	l := work("a", 0, 20, 50, 80)
	for _, x := range []struct {
		what   string
		t      api.DutyTrip
		wanted int
	}{
		{"at once", trip(80, 0, 20), 80},
		{"at once, in the same stint", trip(85, 0, 20), 85},
		{"behind a break", trip(80, 0, 21), 90},
		{"behind a break, later", trip(89, 50, 50), 90},
		{"a break is over", trip(91, 50, 50), 91},
		{"in a shift that is just long enough", trip(150, 0, 50), 150},
		{"behind a rest", trip(151, 0, 50), 180},
		{"behind a rest, as late as may be", trip(179, 22, 22), 180},
		{"within the shift, as late as may be", trip(179, 0, 21), 179},
		{"no length, in too long a shift", trip(179, 0, 0), 179},
		{"at the end of time", trip(8640000000, 0, 50), 8640000000},
	} {
		gives(t, x.what, x.wanted)(duty.EarliestStart(r, l, x.t))
		if x.wanted > 1000 {
			continue
		}
		x.t.Next = x.wanted + x.t.Takes.Hi + 100
		gives(t, x.what+", with a next shift", x.wanted)(duty.EarliestStart(r, l, x.t))
		x.t.Next--
		fails(t, x.what+", with a next shift that is too near", api.ErrNone)(duty.EarliestStart(r, l, x.t))
	}
	fails(t, "longer than a stint", api.ErrNone)(duty.EarliestStart(r, l, trip(80, 0, 51)))
	fails(t, "longer than a stint, without records", api.ErrNone)(duty.EarliestStart(r, nil, trip(80, 0, 51)))
	gives(t, "without records", 80)(duty.EarliestStart(r, nil, trip(80, 0, 50)))
	r.Stint, r.Shift = 300, 50
	fails(t, "longer than a shift", api.ErrNone)(duty.EarliestStart(r, nil, trip(80, 0, 51)))
	r.Shift, r.Week = 300, 50
	fails(t, "longer than a week of work", api.ErrNone)(duty.EarliestStart(r, nil, trip(80, 0, 51)))
}

// TestEarliestWeek is of P7.4: a trip that waits until enough work is older than a week, also if a shift goes on meanwhile.
func TestEarliestWeek(t *testing.T) {
	r := api.DutyRules{Break: 10, Rest: 100, Stint: 2000000, Shift: 2000000, Week: 1000}
	l := work("a", 1000, 1900)
	for _, x := range []struct{ start, longest, wanted int }{
		{1900, 100, 1900},
		{5000, 100, 5000},
		// Of the record as much is to be older as there would be too much.
		{1900, 101, 604800 + 1001 - 101},
		{1900, 600, 604800 + 1500 - 600},
		{605699, 600, 605700},
		{605701, 600, 605701},
		{1900, 1000, 604800 + 1900 - 1000},
	} {
		gives(t, fmt.Sprint("EarliestStart ", x), x.wanted)(duty.EarliestStart(r, l, trip(x.start, 0, x.longest)))
	}
	r.Rest = 2000000
	gives(t, "within a long shift", 605801-101)(duty.EarliestStart(r, l, trip(1900, 0, 101)))
	r.Shift = 604801
	gives(t, "within a shift that is just long enough", 605801-101)(duty.EarliestStart(r, l, trip(1900, 0, 101)))
	r.Shift--
	gives(t, "behind a rest, as the shift gets too long", 1900+2000000)(duty.EarliestStart(r, l, trip(1900, 0, 101)))
	r.Break = 2000000
	r.Stint = 1000
	gives(t, "behind a long break", 1900+2000000)(duty.EarliestStart(r, l, trip(1900, 0, 101)))
	x := trip(1900, 0, 101)
	x.Next = 1900 + 2000000 + 101 + 2000000
	gives(t, "behind a long break, ahead of the next shift", 1900+2000000)(duty.EarliestStart(r, l, x))
	x.Next--
	fails(t, "behind a long break, too near the next shift", api.ErrNone)(duty.EarliestStart(r, l, x))
}

// TestEarliestAtTheEnd is of P7.4: a trip begins at the end of time at the latest.
func TestEarliestAtTheEnd(t *testing.T) {
	end := 8640000000
	r := api.DutyRules{Break: 10, Rest: 100, Stint: 50, Shift: 200, Week: 300}
	gives(t, "a break up to the end of time", end)(duty.EarliestStart(r, work("a", end-60, end-10), trip(end-10, 1, 1)))
	fails(t, "a break up to a second later", api.ErrNone)(duty.EarliestStart(r, work("a", end-59, end-9), trip(end-9, 1, 1)))
	long := api.DutyRules{Break: 10, Rest: 100, Stint: 2000000, Shift: 2000000, Week: 1000}
	for late, wanted := range map[int]int{-5: end - 5, 0: end} {
		l := work("a", end-604800+late, end-603800+late)
		gives(t, fmt.Sprint("work that is a week old by the end of time and ", late), wanted)(duty.EarliestStart(long, l, trip(end-1000, 1, 10)))
	}
	fails(t, "work that is a week old a second later", api.ErrNone)(duty.EarliestStart(long, work("a", end-604799, end-603799), trip(end-1000, 1, 10)))
}

// TestNeverTooEarly is of P7.11: from the earliest start a trip is surely allowed, from no earlier time.
func TestNeverTooEarly(t *testing.T) {
	r := rand.New(rand.NewSource(78))
	atOnce, later, never := 0, 0, 0
	for range 6000 {
		size := scale(r)
		x := anyRules(r, size)
		l := keptRecords(r, x, 12, size)
		trip := anyTrip(r, x, l, size)
		what := fmt.Sprint("EarliestStart of ", x, l, trip)
		got, e := duty.EarliestStart(x, l, trip)
		behind := got
		switch {
		case e == api.ErrNone:
			never++
			fails(t, what, api.ErrNone)(got, e)
			behind = min(trip.Start+10000000, api.MaxDutyTime) + 1
		case e != api.OK || got < trip.Start || got > trip.Start+10000000:
			t.Fatalf("%s: %d, error %d", what, got, e)
		case !surely(x, l, starting(trip, got)):
			t.Errorf("%s: %d, but then it is not surely allowed", what, got)
		case got == trip.Start:
			atOnce++
		default:
			later++
		}
		for _, start := range startsToTry(r, x, l, trip, behind) {
			if surely(x, l, starting(trip, start)) {
				t.Fatalf("%s: %d, error %d, but from %d it is surely allowed", what, got, e, start)
			}
		}
	}
	if min(atOnce, later, never) < 500 {
		t.Errorf("too few of some kind: %d at once, %d later, %d never", atOnce, later, never)
	}
}

func starting(t api.DutyTrip, start int) api.DutyTrip {
	t.Start = start
	return t
}

// startsToTry returns starts of a trip ahead of a time: all that are within some hundred seconds of something, and others.
func startsToTry(r *rand.Rand, x api.DutyRules, l []api.DutyRecord, t api.DutyTrip, behind int) []int {
	near := []int{t.Start, behind, t.Next - x.Rest - t.Takes.Hi}
	for _, record := range l {
		for _, time := range []int{record.From, record.To} {
			near = append(near, time+x.Break, time+x.Rest, time+x.Shift-t.Takes.Hi, time+604800, time+604800-t.Takes.Hi)
		}
	}
	var starts []int
	add := func(start int) {
		if t.Start <= start && start < behind {
			starts = append(starts, start)
		}
	}
	for _, time := range near {
		for away := -2; away <= 2; away++ {
			add(time + away)
		}
	}
	for i := range 100 {
		add(t.Start + i)
		add(behind - 1 - i)
		add(t.Start + r.Intn(max(1, behind-t.Start)))
	}
	return starts
}

// TestEachStart is of P7.11: each single start of a few trips.
func TestEachStart(t *testing.T) {
	r := rand.New(rand.NewSource(79))
	for waited := 0; waited < 40; {
		x := anyRules(r, 40)
		l := keptRecords(r, x, 8, 40)
		trip := anyTrip(r, x, l, 40)
		got, e := duty.EarliestStart(x, l, trip)
		if e != api.OK || got == trip.Start {
			continue
		}
		waited++
		for start := trip.Start; start < min(got, trip.Start+5000); start++ {
			if surely(x, l, starting(trip, start)) {
				t.Fatalf("EarliestStart of %v %v %v: %d, but from %d it is surely allowed", x, l, trip, got, start)
			}
		}
	}
}
