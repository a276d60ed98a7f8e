package duty_test

import (
	"fmt"
	"math"
	"math/rand"
	"testing"

	"fiacre/api"
	"fiacre/duty"
)

// TestGroups is of P7.2: where stints and shifts end.
func TestGroups(t *testing.T) {
	gives(t, "the stints of the example", "[[0 1] [2 2]]")(duty.Stints(usual(), ann()))
	gives(t, "the shifts of the example", "[[0 2]]")(duty.Shifts(usual(), ann()))
	gives(t, "no stints", "[]")(duty.Stints(usual(), nil))
	gives(t, "no shifts", "[]")(duty.Shifts(usual(), nil))
	r := api.DutyRules{Break: 10, Rest: 100, Stint: 1, Shift: 1, Week: 1}
	for _, x := range []struct {
		gap            int
		stints, shifts string
	}{
		{0, "[[0 1]]", "[[0 1]]"},
		{9, "[[0 1]]", "[[0 1]]"},
		{10, "[[0 0] [1 1]]", "[[0 1]]"},
		{99, "[[0 0] [1 1]]", "[[0 1]]"},
		{100, "[[0 0] [1 1]]", "[[0 0] [1 1]]"},
	} {
		l := work("a", 5, 6, 6+x.gap, 1000)
		gives(t, fmt.Sprint("the stints with a gap of ", x.gap), x.stints)(duty.Stints(r, l))
		gives(t, fmt.Sprint("the shifts with a gap of ", x.gap), x.shifts)(duty.Shifts(r, l))
	}
	gives(t, "several stints", "[[0 1] [2 2] [3 4] [5 5]]")(duty.Stints(r, work("a", 0, 1, 1, 2, 12, 13, 113, 114, 123, 124, 134, 135)))
	gives(t, "several shifts", "[[0 2] [3 5]]")(duty.Shifts(r, work("a", 0, 1, 1, 2, 12, 13, 113, 114, 123, 124, 134, 135)))
}

// TestAnyGroups is of P7.2 and P7.12: each record belongs to just one stint and one shift, and their work is all work.
func TestAnyGroups(t *testing.T) {
	r := rand.New(rand.NewSource(73))
	for range 1000 {
		size := scale(r)
		rules := anyRules(r, size)
		l := anyRecords(r, rules, 40, size)
		all, e := duty.WorkIn(l, 0, api.MaxDutyTime)
		gives(t, "all work", slowWork(l, 0, api.MaxDutyTime))(all, e)
		for gap, groupsOf := range map[int]func(api.DutyRules, []api.DutyRecord) ([][2]int, api.Errno){rules.Break: duty.Stints, rules.Rest: duty.Shifts} {
			groups, e := groupsOf(rules, l)
			var wanted [][2]int
			sum := 0
			for i := range l {
				if i == len(l)-1 || l[i+1].From-l[i].To >= gap {
					wanted = append(wanted, [2]int{slowFirst(l, i, gap), i})
				}
			}
			gives(t, fmt.Sprint("groups of ", l, " with gaps of less than ", gap), wanted)(groups, e)
			for _, group := range groups {
				sum += first(duty.WorkIn(l[group[0]:group[1]+1], 0, api.MaxDutyTime))
			}
			gives(t, "the work of all groups", all)(sum, api.OK)
		}
	}
}

// TestWorkIn is of P7.2: work at the ends of a span, and its errors.
func TestWorkIn(t *testing.T) {
	gives(t, "the example", 1500)(duty.WorkIn(ann(), 9000, 11000))
	for _, x := range [][3]int{{0, 0, 0}, {0, 8640000000, 18500}, {9999, 10000, 1}, {10000, 10500, 0}, {10000, 10501, 1}, {1, 2, 1}, {14999, 16001, 2}, {20000, 30000, 0}, {8640000000, 8640000000, 0}} {
		gives(t, fmt.Sprint("work from ", x[0], " to ", x[1]), x[2])(duty.WorkIn(ann(), x[0], x[1]))
	}
	gives(t, "no work", 0)(duty.WorkIn(nil, 0, 8640000000))
	gives(t, "work at all times", 8640000000)(duty.WorkIn(work("a", 0, 8640000000), 0, 8640000000))
	for _, time := range []int{-1, 8640000001, math.MinInt, math.MaxInt} {
		fails(t, "from no time", api.ErrRange)(duty.WorkIn(ann(), time, 5))
		fails(t, "to no time", api.ErrRange)(duty.WorkIn(ann(), 5, time))
	}
	fails(t, "to an earlier time", api.ErrOrder)(duty.WorkIn(ann(), 6, 5))
	fails(t, "to an earlier time, without records", api.ErrOrder)(duty.WorkIn(nil, 8640000000, 0))
}

// TestWorkAddsUp is of P7.2 and P7.12: the work of a span is that of all its seconds, and that of its parts.
func TestWorkAddsUp(t *testing.T) {
	r := rand.New(rand.NewSource(74))
	for range 1000 {
		size := scale(r)
		l := anyRecords(r, anyRules(r, size), 40, size)
		end := size
		if len(l) > 0 {
			end = l[len(l)-1].To + size
		}
		from := r.Intn(end)
		to := from + r.Intn(end-from)
		between := from + r.Intn(to-from+1)
		what := fmt.Sprint("WorkIn of ", l, " from ", from, " to ", to)
		got, e := duty.WorkIn(l, from, to)
		gives(t, what, slowWork(l, from, to))(got, e)
		gives(t, what+" in two parts", first(duty.WorkIn(l, from, between))+first(duty.WorkIn(l, between, to)))(got, e)
		if to-from > 1000 {
			continue
		}
		seconds := 0
		for time := from; time < to; time++ {
			if slowSecond(l, time) {
				seconds++
			}
		}
		gives(t, what+" by seconds", seconds)(got, e)
	}
}

// TestFirstBroken is of P7.3: each rule just kept and just broken, and which one is told.
func TestFirstBroken(t *testing.T) {
	r := api.DutyRules{Break: 10, Rest: 100, Stint: 50, Shift: 200, Week: 300}
	long := api.DutyRules{Break: 10, Rest: 100, Stint: 2000000, Shift: 2000000, Week: 1000}
	for _, x := range []struct {
		what         string
		r            api.DutyRules
		l            []api.DutyRecord
		rule, record int
	}{
		{"no records", r, nil, 0, 0},
		{"the records of the examples", usual(), ann(), 0, 0},
		{"a stint just long enough", r, work("a", 0, 50), 0, 0},
		{"a stint a second longer", r, work("a", 0, 51), api.DutyStint, 0},
		{"a stint of two records", r, work("a", 0, 25, 34, 59), 0, 0},
		{"a stint of two records, a second longer", r, work("a", 0, 25, 34, 60), api.DutyStint, 1},
		{"a break between", r, work("a", 0, 25, 35, 85), 0, 0},
		{"the second stint", r, work("a", 0, 50, 60, 100, 109, 120), api.DutyStint, 2},
		{"records that touch are of one stint", r, work("a", 0, 30, 30, 51), api.DutyStint, 1},
		{"a shift just long enough", r, work("a", 0, 30, 100, 130, 190, 200), 0, 0},
		{"a shift a second longer", r, work("a", 0, 30, 100, 130, 190, 201), api.DutyShift, 2},
		{"a rest between", r, work("a", 0, 30, 130, 150, 250, 300), 0, 0},
		{"no rest between", r, work("a", 0, 30, 129, 150, 249, 270), api.DutyShift, 2},
		{"a week just long enough", long, work("a", 0, 500, 1000, 1500), 0, 0},
		{"a week a second longer", long, work("a", 0, 500, 1000, 1501), api.DutyWeek, 1},
		{"work that is just a week old", long, work("a", 0, 1000, 605300, 605800), 0, 0},
		{"work of which a part is a week old", long, work("a", 0, 1000, 605299, 605799), 0, 0},
		{"work of which a part is older", long, work("a", 0, 1000, 604800, 605300, 605310, 605320), 0, 0},
		{"work of which a second too few is older", long, work("a", 0, 1000, 604799, 605299), api.DutyWeek, 1},
		{"work of which just enough is older at each record", long, work("a", 0, 1000, 604800, 605301, 605301, 605700), 0, 0},
		{"the stint ahead of the shift", r, work("a", 0, 201), api.DutyStint, 0},
		{"the stint ahead of all", r, work("a", 0, 301), api.DutyStint, 0},
		{"the shift ahead of the week", api.DutyRules{Break: 1, Rest: 1, Stint: 9, Shift: 5, Week: 5}, work("a", 0, 6), api.DutyShift, 0},
		{"an earlier record ahead of an earlier rule", api.DutyRules{Break: 10, Rest: 100, Stint: 50, Shift: 2000000, Week: 10}, work("a", 0, 11, 12, 90), api.DutyWeek, 0},
	} {
		if x.rule == 0 {
			fails(t, x.what, api.ErrNone)(duty.FirstBroken(x.r, x.l))
		} else {
			gives(t, x.what, api.DutyBroken{Rule: x.rule, Record: x.record})(duty.FirstBroken(x.r, x.l))
		}
	}
}

// TestWeekInParts is of P7.3: the work of a week with a record of which each part in turn is too old.
func TestWeekInParts(t *testing.T) {
	r := api.DutyRules{Break: 1, Rest: 1, Stint: 2000000, Shift: 2000000, Week: 1000}
	for older := -100; older <= 1100; older += 50 {
		left := 1000 - min(max(older, 0), 1000)
		for extra := range 2 {
			l := work("a", 0, 1000, 604800+older-(1000-left)-extra, 604800+older)
			if l[1].From >= l[1].To {
				continue
			}
			what := fmt.Sprint("a part of ", older, " is older, and there is ", extra, " too much")
			if extra == 0 {
				fails(t, what, api.ErrNone)(duty.FirstBroken(r, l))
			} else {
				gives(t, what, api.DutyBroken{Rule: api.DutyWeek, Record: 1})(duty.FirstBroken(r, l))
			}
		}
	}
}

// TestAnyBroken is of P7.3: random records break what they break by the definition.
func TestAnyBroken(t *testing.T) {
	r := rand.New(rand.NewSource(75))
	var rules [4]int
	for range 20000 {
		size := scale(r)
		x := anyRules(r, size)
		l := anyRecords(r, x, 40, size)
		wanted := slowBroken(x, l)
		rules[wanted.Rule]++
		what := fmt.Sprint("FirstBroken of ", x, l)
		if wanted.Rule == api.DutyNone {
			fails(t, what, api.ErrNone)(duty.FirstBroken(x, l))
		} else {
			gives(t, what, wanted)(duty.FirstBroken(x, l))
		}
	}
	for rule, many := range rules {
		if many < 1000 {
			t.Errorf("the rule %d is the first one too seldom: %d", rule, many)
		}
	}
}
