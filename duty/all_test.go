package duty_test

import (
	"fmt"
	"math"
	"math/rand"
	"slices"
	"strings"
	"sync"
	"testing"

	"fiacre/api"
	"fiacre/duty"
)

// odd returns a number that is likely to be at an end of something.
func odd(r *rand.Rand) int {
	ends := []int{math.MinInt, -2000001, -2, -1, 0, 1, 2, 10, 13, 14, 20, 604800, 100000, 100001, 200000, 200001, 2000000, 2000001, 8640000000, 8640000001, math.MaxInt}
	return ends[r.Intn(len(ends))]
}

// oddly returns a number, or now and then an odd one.
func oddly(r *rand.Rand, n int) int {
	if r.Intn(12) == 0 {
		return odd(r)
	}
	return n
}

func oddName(r *rand.Rand) string {
	return []string{"n", "n", "n", "a", "", "7", "\xff\n", "a b", "abcdefghijklm"}[r.Intn(9)]
}

// spoiltRules returns rules of which a limit is odd now and then.
func spoiltRules(r *rand.Rand, x api.DutyRules) api.DutyRules {
	if r.Intn(3) == 0 {
		*limits(&x)[r.Intn(5)] = odd(r)
	}
	return x
}

// spoiltRecords returns records of which a few are changed to odd ones.
func spoiltRecords(r *rand.Rand, l []api.DutyRecord) []api.DutyRecord {
	l = slices.Clone(l)
	for range max(0, r.Intn(6)-3) {
		if len(l) == 0 || r.Intn(3) == 0 {
			l = append(l, api.DutyRecord{Driver: oddName(r), From: odd(r), To: odd(r)})
			continue
		}
		x := &l[r.Intn(len(l))]
		x.Driver, x.From, x.To = oddName(r), oddly(r, x.From), oddly(r, x.To)
	}
	if r.Intn(20) == 0 {
		l = slices.Repeat(l, 12)
	}
	return l
}

func spoiltTrip(r *rand.Rand, x api.DutyTrip) api.DutyTrip {
	return api.DutyTrip{Start: oddly(r, x.Start), Takes: api.Range{Lo: oddly(r, x.Takes.Lo), Hi: oddly(r, x.Takes.Hi)}, Next: oddly(r, x.Next)}
}

func oddLicences(r *rand.Rand) []api.DutyLicence {
	var l []api.DutyLicence
	for range r.Intn(23) {
		from := r.Intn(100000)
		l = append(l, api.DutyLicence{Kind: "n", From: from, To: from + r.Intn(100001-from)})
	}
	for range min(len(l), r.Intn(4)) {
		l[r.Intn(len(l))] = api.DutyLicence{Kind: oddName(r), From: odd(r), To: odd(r)}
	}
	return l
}

func oddUses(r *rand.Rand) []api.DutyUse {
	l := anyUses(r, 16, 20)
	for range min(len(l), max(0, r.Intn(5)-2)) {
		l[r.Intn(len(l))] = api.DutyUse{Car: oddName(r), From: odd(r), To: odd(r)}
	}
	return l
}

// TestNoPanic is of P1: with whatever arguments every function ends, and beside an error all other results are zero values.
func TestNoPanic(t *testing.T) {
	r := rand.New(rand.NewSource(85))
	for range 10000 {
		size := scale(r)
		right := anyRules(r, size)
		kept := keptRecords(r, right, 12, size)
		rules, l, x := spoiltRules(r, right), spoiltRecords(r, kept), spoiltTrip(r, anyTrip(r, right, kept, size))
		ends := zero(t)
		ends(duty.Stints(rules, l))
		ends(duty.Shifts(rules, l))
		ends(duty.WorkIn(l, oddly(r, 5), odd(r)))
		ends(duty.FirstBroken(rules, l))
		ends(allowed(rules, l, x))
		ends(duty.LongestFrom(rules, l, x.Start))
		ends(duty.EarliestStart(rules, l, x))
		ends(duty.Joined(l, spoiltRecords(r, kept)))
		ends(duty.Handed(l))
		licences := oddLicences(r)
		ends(duty.Holds(licences, oddName(r), odd(r)))
		ends(duty.Lapses(licences, oddName(r), odd(r)))
		ends(duty.MayDrive(licences, []string{oddName(r), oddName(r)}, odd(r)))
		ends(duty.NextInspection([]int{odd(r), odd(r)}, odd(r), odd(r)))
		ends(duty.NextInspection([]int{5, 7}, odd(r), odd(r)))
		uses := oddUses(r)
		p, e := duty.Plates(uses)
		ends(p, e)
		p.At = oddly(r, p.At)
		for i := range p.Plates {
			p.Plates[i] = oddly(r, p.Plates[i])
		}
		ends(duty.CheckPlates(uses, p))
		ends(duty.CheckPlates(uses, platesAt(odd(r), odd(r))))
		ends(duty.ParseRecord(scribbled(r, "an 10 20")))
		duty.CheckRules(rules)
		duty.CheckRecords(l)
		duty.CheckLicences(licences)
	}
}

// zero returns a function that takes a result and its error, and wants nothing beside an error.
func zero(t *testing.T) func(got any, e api.Errno) {
	t.Helper()
	return func(got any, e api.Errno) {
		t.Helper()
		if e < api.OK || e > api.ErrBalance || e != api.OK && !isNothing(got) {
			t.Errorf("beside the error %d: %v", e, got)
		}
	}
}

// roomy returns a list of the same elements with room behind it.
func roomy[T any](list []T) []T { return append(make([]T, 0, len(list)+9), list...) }

// behind returns a list, and what stands in the room behind it.
func behind[T any](list []T) string { return fmt.Sprint(list[:cap(list)]) }

// spoil changes all that a list has, and what is in the room behind it.
func spoil[T any](list []T, odd T) {
	for i := range list {
		list[i] = odd
	}
	_ = append(list, odd)
}

// TestMemory is of R3: arguments stay as they are, and results share no memory with them.
func TestMemory(t *testing.T) {
	l, late, none := roomy(ann()), roomy(work("ann", 100000, 100001, 200000, 200001)), roomy([]api.DutyRecord{})
	licences, kinds, done := roomy(taxi()), roomy([]string{"taxi", "bus"}), roomy([]int{100, 300})
	uses := roomy([]api.DutyUse{{Car: "z", From: 7, To: 9}, {Car: "y", From: 3, To: 8}, {Car: "x", From: 0, To: 4}})
	plates := roomy([]int{0, 1, 0})
	all := func() string {
		return behind(l) + behind(late) + behind(none) + behind(licences) + behind(kinds) + behind(done) + behind(uses) + behind(plates)
	}
	before := all()
	for _, records := range [][]api.DutyRecord{l, late, none} {
		spoil(first(duty.Stints(usual(), records)), [2]int{7, 7})
		spoil(first(duty.Shifts(usual(), records)), [2]int{7, 7})
		spoil(first(duty.Handed(records)), "spoilt")
		spoil(first(duty.Joined(records, none)), api.DutyRecord{})
		spoil(first(duty.Joined(none, records)), api.DutyRecord{})
		spoil(first(duty.Joined(late, l)), api.DutyRecord{})
		duty.CheckRecords(records)
		duty.WorkIn(records, 5, 12000)
		duty.FirstBroken(usual(), records)
		duty.Allowed(usual(), records, trip(300000, 5, 20000))
		duty.LongestFrom(usual(), records, 300000)
		duty.EarliestStart(usual(), records, trip(300000, 5, 20000))
	}
	duty.CheckLicences(licences)
	duty.Holds(licences, "taxi", 150)
	duty.Lapses(licences, "taxi", 150)
	duty.MayDrive(licences, kinds, 150)
	duty.NextInspection(done, 180, 310)
	spoil(first(duty.Plates(uses)).Plates, 77)
	duty.CheckPlates(uses, api.DutyPlates{Plates: plates, At: 3})
	if after := all(); after != before {
		t.Errorf("an argument was changed from %s to %s", before, after)
	}
}

// TestNothing is of R5: a nil list and an empty one are the same.
func TestNothing(t *testing.T) {
	for _, l := range [][]api.DutyRecord{nil, {}} {
		at(t, "CheckRecords", 0, api.OK)(duty.CheckRecords(l))
		gives(t, "Stints", "[]")(duty.Stints(usual(), l))
		gives(t, "Shifts", "[]")(duty.Shifts(usual(), l))
		gives(t, "WorkIn", 0)(duty.WorkIn(l, 0, 5))
		fails(t, "FirstBroken", api.ErrNone)(duty.FirstBroken(usual(), l))
		gives(t, "Allowed", answer{api.AnswerYes, api.DutyNone})(allowed(usual(), l, trip(0, 0, 16200)))
		gives(t, "LongestFrom", 16200)(duty.LongestFrom(usual(), l, 0))
		gives(t, "EarliestStart", 7)(duty.EarliestStart(usual(), l, trip(7, 0, 16200)))
		gives(t, "Joined", "[]")(duty.Joined(l, l))
		gives(t, "Joined with others", ann())(duty.Joined(l, ann()))
		gives(t, "Handed", "[]")(duty.Handed(l))
	}
	for _, l := range [][]api.DutyLicence{nil, {}} {
		at(t, "CheckLicences", 0, api.OK)(duty.CheckLicences(l))
		gives(t, "Holds", false)(duty.Holds(l, "a", 0))
		fails(t, "Lapses", api.ErrNone)(duty.Lapses(l, "a", 0))
		for _, kinds := range [][]string{nil, {}} {
			gives(t, "MayDrive", "")(duty.MayDrive(l, kinds, 0))
		}
	}
	for _, done := range [][]int{nil, {}} {
		fails(t, "NextInspection", api.ErrNone)(duty.NextInspection(done, 1, 0))
	}
	for _, l := range [][]api.DutyUse{nil, {}} {
		gives(t, "Plates", platesAt(0))(duty.Plates(l))
		gives(t, "CheckPlates of nil", 0)(duty.CheckPlates(l, platesAt(0)))
		gives(t, "CheckPlates of none", 0)(duty.CheckPlates(l, api.DutyPlates{Plates: []int{}}))
	}
}

// TestLarge is of P1: also long texts and lists are soon done with.
func TestLarge(t *testing.T) {
	at(t, "CheckRecords of many", 0, api.ErrLarge)(duty.CheckRecords(make([]api.DutyRecord, 1<<20)))
	at(t, "CheckLicences of many", 0, api.ErrLarge)(duty.CheckLicences(make([]api.DutyLicence, 1<<20)))
	fails(t, "Plates of many uses", api.ErrLarge)(duty.Plates(make([]api.DutyUse, 1<<20)))
	fails(t, "CheckPlates of many plates", api.ErrShape)(duty.CheckPlates(three(), platesAt(0, make([]int, 1<<20)...)))
	fails(t, "NextInspection of many", api.ErrLarge)(duty.NextInspection(make([]int, 1<<20), 1, 0))
	fails(t, "MayDrive of many kinds", api.ErrLarge)(duty.MayDrive(nil, make([]string, 1<<20), 0))
	fails(t, "ParseRecord of many words", api.ErrSyntax)(duty.ParseRecord(strings.Repeat("a ", 1<<20)))
	fails(t, "ParseRecord of a long number", api.ErrSyntax)(duty.ParseRecord("ann 0 " + strings.Repeat("1", 1<<20)))
	fails(t, "ParseRecord of a long name", api.ErrName)(duty.ParseRecord(strings.Repeat("a", 1<<20) + " 0 1"))
	long := api.DutyRecord{Driver: strings.Repeat("a", 1<<20)}
	gives(t, "FormatRecord of a long name", 1<<20+4)(len(duty.FormatRecord(long)), api.OK)
}

// TestAtOnce is of R4: results are the same, whatever else goes on.
func TestAtOnce(t *testing.T) {
	all := func() string {
		return fmt.Sprint(first(duty.Stints(usual(), ann())), first(allowed(usual(), ann(), trip(20000, 5000, 13000))), first(duty.EarliestStart(usual(), ann(), trip(20000, 5000, 13000))), first(duty.Plates(three())))
	}
	wanted := all()
	var calls sync.WaitGroup
	for range 20 {
		calls.Go(func() {
			if got := all(); got != wanted {
				t.Errorf("first %s, and then %s", wanted, got)
			}
		})
	}
	calls.Wait()
}
