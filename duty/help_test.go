package duty_test

import (
	"fmt"
	"math/rand"
	"reflect"
	"slices"
	"testing"

	"fiacre/api"
	"fiacre/duty"
)

// gives returns a function that takes a result and its error, and compares the result with what is wanted. A nil list and an empty one are the same.
func gives(t *testing.T, what string, wanted any) func(got any, e api.Errno) {
	t.Helper()
	return func(got any, e api.Errno) {
		t.Helper()
		if fmt.Sprint(got) != fmt.Sprint(wanted) || e != api.OK {
			t.Errorf("%s: %v, error %d; want %v", what, got, e, wanted)
		}
	}
}

// fails returns a function that takes a result and its error, and wants this error, and nothing beside it.
func fails(t *testing.T, what string, wanted api.Errno) func(got any, e api.Errno) {
	t.Helper()
	return func(got any, e api.Errno) {
		t.Helper()
		if !isNothing(got) || e != wanted {
			t.Errorf("%s: %v, error %d; want the error %d and nothing beside it", what, got, e, wanted)
		}
	}
}

// at returns a function that takes a number and an error, and wants these.
func at(t *testing.T, what string, number int, wanted api.Errno) func(got int, e api.Errno) {
	t.Helper()
	return func(got int, e api.Errno) {
		t.Helper()
		if got != number || e != wanted {
			t.Errorf("%s: the error %d at %d; want %d at %d", what, e, got, wanted, number)
		}
	}
}

func isNothing(x any) bool {
	v := reflect.ValueOf(x)
	if v.Kind() == reflect.Slice {
		return v.Len() == 0
	}
	if v.Kind() != reflect.Struct {
		return v.IsZero()
	}
	for i := range v.NumField() {
		if !isNothing(v.Field(i).Interface()) {
			return false
		}
	}
	return true
}

func first[T any](x T, _ api.Errno) T { return x }

// answer is what Allowed returns, in one value.
type answer struct{ Answer, Rule int }

func allowed(r api.DutyRules, l []api.DutyRecord, t api.DutyTrip) (answer, api.Errno) {
	is, rule, e := duty.Allowed(r, l, t)
	return answer{is, rule}, e
}

// usual is the rules of the document's examples.
func usual() api.DutyRules {
	return api.DutyRules{Break: 900, Rest: 36000, Stint: 16200, Shift: 43200, Week: 200000}
}

// work returns records of one driver with these beginnings and ends.
func work(driver string, times ...int) []api.DutyRecord {
	var l []api.DutyRecord
	for i := 0; i < len(times); i += 2 {
		l = append(l, api.DutyRecord{Driver: driver, From: times[i], To: times[i+1]})
	}
	return l
}

// ann is the records of the document's examples.
func ann() []api.DutyRecord { return work("ann", 0, 10000, 10500, 15000, 16000, 20000) }

// full returns so many records of ann, a second each, with gaps of a second.
func full(many int) []api.DutyRecord {
	var l []api.DutyRecord
	for i := range many {
		l = append(l, api.DutyRecord{Driver: "ann", From: 2 * i, To: 2*i + 1})
	}
	return l
}

// trip is a trip behind which nothing is planned.
func trip(start, lo, hi int) api.DutyTrip {
	return api.DutyTrip{Start: start, Takes: api.Range{Lo: lo, Hi: hi}, Next: -1}
}

// scale returns one of some sizes of times: with the greatest ones work is older than a week now and then.
func scale(r *rand.Rand) int { return []int{3, 20, 5000, 60000, 200000}[r.Intn(5)] }

// upTo returns a number from 1 to n, or to the limit of rules.
func upTo(r *rand.Rand, n int) int { return 1 + r.Intn(min(n, api.MaxDutyRule)) }

// anyRules returns random right rules for times of a size.
func anyRules(r *rand.Rand, size int) api.DutyRules {
	x := api.DutyRules{Break: upTo(r, size), Stint: upTo(r, 8*size), Shift: upTo(r, 16*size), Week: upTo(r, 20*size)}
	x.Rest = min(x.Break+r.Intn(4*size), api.MaxDutyRule)
	if r.Intn(3) == 0 {
		x.Stint, x.Shift = api.MaxDutyRule, api.MaxDutyRule
	}
	if r.Intn(4) == 0 {
		x.Rest = x.Break
	}
	return x
}

// anyRecords returns at most so many random right records, with times of a size; gaps are often just a break or a rest, or one second less.
func anyRecords(r *rand.Rand, rules api.DutyRules, most, size int) []api.DutyRecord {
	var l []api.DutyRecord
	time := r.Intn(size)
	for range r.Intn(most + 1) {
		x := api.DutyRecord{Driver: "n", From: time + anyGap(r, rules, size)}
		x.To = x.From + upTo(r, size)
		time = x.To
		l = append(l, x)
	}
	return l
}

func anyGap(r *rand.Rand, rules api.DutyRules, size int) int {
	switch r.Intn(6) {
	case 0:
		return 0
	case 1:
		return rules.Break - r.Intn(2)
	case 2:
		return rules.Rest - r.Intn(2)
	case 3:
		return r.Intn(4 * size)
	}
	return r.Intn(rules.Break)
}

// keptRecords returns random right records that break no rule.
func keptRecords(r *rand.Rand, rules api.DutyRules, most, size int) []api.DutyRecord {
	l := anyRecords(r, rules, most, size)
	for slowBroken(rules, l) != (api.DutyBroken{}) {
		l = l[:len(l)-1]
	}
	return l
}

// anyTrip returns a random right trip behind records.
func anyTrip(r *rand.Rand, rules api.DutyRules, l []api.DutyRecord, size int) api.DutyTrip {
	t := api.DutyTrip{Start: r.Intn(size), Next: -1}
	if len(l) > 0 {
		t.Start = l[len(l)-1].To + anyGap(r, rules, size)
	}
	t.Takes.Hi = r.Intn(min(2*size, api.MaxDutyTakes+1))
	t.Takes.Lo = []int{0, r.Intn(t.Takes.Hi + 1), t.Takes.Hi}[r.Intn(3)]
	if r.Intn(3) == 0 {
		t.Next = max(0, t.Start+rules.Rest+r.Intn(6*size)-size)
	}
	return t
}

// slowWork is the definition of the work in a span: what is left of each record when what is outside is cut off.
func slowWork(l []api.DutyRecord, from, to int) int {
	sum := 0
	for _, x := range l {
		for _, end := range []*int{&x.From, &x.To} {
			if *end < from {
				*end = from
			}
			if *end > to {
				*end = to
			}
		}
		sum += x.To - x.From
	}
	return sum
}

// slowSecond tells whether there is work in the second from a time on.
func slowSecond(l []api.DutyRecord, time int) bool {
	return slices.ContainsFunc(l, func(x api.DutyRecord) bool { return x.From <= time && time < x.To })
}

// slowFirst is the definition of the first record of the stint, or shift, of a record: no gap from there on is as long as the one that ends it.
func slowFirst(l []api.DutyRecord, record, gap int) int {
	for record > 0 && l[record].From-l[record-1].To < gap {
		record--
	}
	return record
}

// slowRule is the definition of the first rule that is broken at a record.
func slowRule(r api.DutyRules, l []api.DutyRecord, record int) int {
	stint := 0
	for i := slowFirst(l, record, r.Break); i <= record; i++ {
		stint += l[i].To - l[i].From
	}
	if stint > r.Stint {
		return api.DutyStint
	}
	if l[record].To-l[slowFirst(l, record, r.Rest)].From > r.Shift {
		return api.DutyShift
	}
	if slowWork(l[:record+1], l[record].To-604800, l[record].To) > r.Week {
		return api.DutyWeek
	}
	return api.DutyNone
}

// slowBroken is the definition of the first broken rule; it is nothing if none is broken.
func slowBroken(r api.DutyRules, l []api.DutyRecord) api.DutyBroken {
	for i := range l {
		if rule := slowRule(r, l, i); rule != api.DutyNone {
			return api.DutyBroken{Rule: rule, Record: i}
		}
	}
	return api.DutyBroken{}
}

// slowBrokenBy is the definition of the first rule that a trip of a length breaks.
func slowBrokenBy(r api.DutyRules, l []api.DutyRecord, t api.DutyTrip, length int) int {
	if length > 0 {
		all := append(slices.Clone(l), api.DutyRecord{Driver: "n", From: t.Start, To: t.Start + length})
		if rule := slowRule(r, all, len(l)); rule != api.DutyNone {
			return rule
		}
	}
	if t.Next != -1 && t.Next-(t.Start+length) < r.Rest {
		return api.DutyNext
	}
	return api.DutyNone
}

// surely tells by the definition whether a trip is surely allowed; all lengths are asked if they are few.
func surely(r api.DutyRules, l []api.DutyRecord, t api.DutyTrip) bool {
	if t.Takes.Hi-t.Takes.Lo > 100 {
		return slowBrokenBy(r, l, t, t.Takes.Hi) == api.DutyNone
	}
	for length := t.Takes.Lo; length <= t.Takes.Hi; length++ {
		if slowBrokenBy(r, l, t, length) != api.DutyNone {
			return false
		}
	}
	return true
}
