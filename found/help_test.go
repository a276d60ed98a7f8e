package found_test

import (
	"fmt"
	"math/rand"
	"reflect"
	"regexp"
	"slices"
	"testing"

	"fiacre/api"
	"fiacre/found"
)

// gives returns a function that takes a result and its error, and compares the result with what is wanted. A nil list and an empty one are the same.
func gives(t *testing.T, what string, wanted any) func(got any, e api.Errno) {
	t.Helper()
	return func(got any, e api.Errno) {
		t.Helper()
		if fmt.Sprint(got) != fmt.Sprint(wanted) || e != api.OK {
			t.Errorf("%s: %v, error %d; want %v", what, got, e, wanted)
		}
	}
}

// fails returns a function that takes a result and its error, and wants this error, and nothing beside it.
func fails(t *testing.T, what string, wanted api.Errno) func(got any, e api.Errno) {
	t.Helper()
	return func(got any, e api.Errno) {
		t.Helper()
		if !isNothing(got) || e != wanted {
			t.Errorf("%s: %v, error %d; want the error %d and nothing beside it", what, got, e, wanted)
		}
	}
}

// at returns a function that takes a number and an error, and wants these.
func at(t *testing.T, what string, number int, wanted api.Errno) func(got int, e api.Errno) {
	t.Helper()
	return func(got int, e api.Errno) {
		t.Helper()
		if got != number || e != wanted {
			t.Errorf("%s: the error %d at %d; want %d at %d", what, e, got, wanted, number)
		}
	}
}

func is(t *testing.T, what string, got, wanted api.Errno) {
	t.Helper()
	if got != wanted {
		t.Errorf("%s: the error %d; want %d", what, got, wanted)
	}
}

func isNothing(x any) bool {
	v := reflect.ValueOf(x)
	if v.Kind() == reflect.Slice {
		return v.Len() == 0
	}
	if v.Kind() != reflect.Struct {
		return v.IsZero()
	}
	for i := range v.NumField() {
		if !isNothing(v.Field(i).Interface()) {
			return false
		}
	}
	return true
}

func first[T any](x T, _ api.Errno) T { return x }

// marks returns marks of keys and values in turn.
func marks(list ...string) []api.FoundMark {
	var l []api.FoundMark
	for i := 0; i < len(list); i += 2 {
		l = append(l, api.FoundMark{Key: list[i], Value: list[i+1]})
	}
	return l
}

func item(name string, day int, finder string, l ...string) api.FoundItem {
	return api.FoundItem{Name: name, Day: day, Finder: finder, Marks: marks(l...)}
}

func claim(name string, day int, owner string, l ...string) api.FoundClaim {
	return api.FoundClaim{Name: name, Day: day, Owner: owner, Marks: marks(l...)}
}

// hat is the first item of the document's examples.
func hat() api.FoundItem {
	return item("hat", 10, "ann", "color", "red", "kind", "hat", "size", "big")
}

// items is the items of the document's examples.
func items() []api.FoundItem {
	return []api.FoundItem{hat(), item("cap", 12, "ann", "color", "red", "kind", "cap"), item("bag", 11, "bob", "color", "red", "kind", "hat")}
}

// one, two and three are the claims of the document's examples.
func one() api.FoundClaim { return claim("one", 12, "cid", "color", "red", "kind", "hat") }

func two() api.FoundClaim {
	return claim("two", 9, "dan", "color", "red", "kind", "hat", "size", "big")
}

func three() api.FoundClaim { return claim("three", 9, "eve", "color", "blue", "kind", "hat") }

func claims() []api.FoundClaim { return []api.FoundClaim{one(), two(), three()} }

func event(day, kind int, from, to string) api.FoundEvent {
	return api.FoundEvent{Item: "hat", Day: day, Kind: kind, From: from, To: to}
}

// kept is the chain of the document's examples, and more events behind it.
func kept(more ...api.FoundEvent) []api.FoundEvent {
	return append([]api.FoundEvent{event(20, api.FoundStored, "ann", "office"), event(30, api.FoundMoved, "office", "depot")}, more...)
}

// numbered returns so many items that have nothing but a name, a day and a finder.
func numbered(many int) []api.FoundItem {
	var l []api.FoundItem
	for i := range many {
		l = append(l, item(fmt.Sprint("i", i), 0, "ann"))
	}
	return l
}

// anyMarks returns random right marks of few keys and values.
func anyMarks(r *rand.Rand, values int) []api.FoundMark {
	var l []api.FoundMark
	for _, key := range []string{"A", "a", "b", "c", "d"} {
		if r.Intn(4) > 0 {
			l = append(l, api.FoundMark{Key: key, Value: fmt.Sprint("v", r.Intn(values))})
		}
	}
	return l
}

// anyItems returns at most so many random right items on few days.
func anyItems(r *rand.Rand, most, values int) []api.FoundItem {
	l := numbered(r.Intn(most + 1))
	for i := range l {
		l[i].Day, l[i].Marks = r.Intn(10), anyMarks(r, values)
	}
	return l
}

// anyClaims returns at most so many random right claims on few days.
func anyClaims(r *rand.Rand, most, values int) []api.FoundClaim {
	var l []api.FoundClaim
	for i, x := range anyItems(r, most, values) {
		l = append(l, api.FoundClaim{Name: fmt.Sprint("c", i), Day: x.Day, Owner: "cid", Marks: x.Marks})
	}
	return l
}

// anyChain returns a random item and a random right chain of it of at most so many events.
func anyChain(r *rand.Rand, most int) (api.FoundItem, []api.FoundEvent) {
	x := hat()
	x.Day = r.Intn(30)
	var l []api.FoundEvent
	for range r.Intn(most + 1) {
		next := anyEvent(r, x, l)
		if slowError(x, l, next) == api.OK {
			l = append(l, next)
		}
	}
	return x, l
}

// anyEvent returns an event that is often right behind others.
func anyEvent(r *rand.Rand, x api.FoundItem, l []api.FoundEvent) api.FoundEvent {
	next := event(x.Day, r.Intn(5), x.Finder, []string{"ann", "bob", "office", "depot"}[r.Intn(4)])
	if len(l) > 0 {
		next.Day, next.From = l[len(l)-1].Day, l[len(l)-1].To
	}
	if r.Intn(3) == 0 {
		next.Kind = api.FoundMoved
	}
	if len(l) == 0 {
		next.Kind = api.FoundStored
	}
	if next.Kind == api.FoundTaken {
		next.To = x.Finder
	}
	next.Day += []int{0, 1, 20, 90, 180, 181, 210, 211, 300}[r.Intn(9)]
	return next
}

var nameForm = regexp.MustCompile(`\A[A-Za-z][A-Za-z0-9-]{0,11}\z`)

func slowIsName(s string) bool { return nameForm.MatchString(s) }

// slowAgreement is the definition of keys in which marks agree, and differ, mark by mark.
func slowAgreement(a, b []api.FoundMark) [2]int {
	var both [2]int
	for _, x := range a {
		for _, y := range b {
			if x == y {
				both[0]++
			} else if x.Key == y.Key {
				both[1]++
			}
		}
	}
	return both
}

// slowCanBe is the definition of an item that can be a claim.
func slowCanBe(x api.FoundItem, c api.FoundClaim) bool {
	both := slowAgreement(x.Marks, c.Marks)
	return x.Day+3 >= c.Day && both[1] == 0 && both[0] >= 2
}

// slowBest is the definition of the best candidate: none of the others is better, and none of the earlier ones as good.
func slowBest(l []api.FoundItem, c api.FoundClaim) (int, bool) {
	far := func(i int) int { return (l[i].Day - c.Day) * (l[i].Day - c.Day) }
	keys := func(i int) int { return slowAgreement(l[i].Marks, c.Marks)[0] }
	for i := range l {
		best := slowCanBe(l[i], c)
		for j := range l {
			if slowCanBe(l[j], c) && (keys(j) > keys(i) || keys(j) == keys(i) && (far(j) < far(i) || far(j) == far(i) && j < i)) {
				best = false
			}
		}
		if best {
			return i, true
		}
	}
	return 0, false
}

// slowMost is how many pairs there can be, with each item in turn left out, or paired with each claim.
func slowMost(l []api.FoundItem, c []api.FoundClaim) int {
	if len(l) == 0 {
		return 0
	}
	most := slowMost(l[1:], c)
	for i, y := range c {
		if slowCanBe(l[0], y) {
			most = max(most, 1+slowMost(l[1:], slices.Delete(slices.Clone(c), i, i+1)))
		}
	}
	return most
}

// slowIsCover is the definition of a cover.
func slowIsCover(l []api.FoundItem, c []api.FoundClaim, x api.FoundCover) bool {
	for i := range l {
		for j := range c {
			if slowCanBe(l[i], c[j]) && !slices.Contains(x.Items, i) && !slices.Contains(x.Claims, j) {
				return false
			}
		}
	}
	return true
}

// slowDays is the events up to the end of a day.
func slowDays(l []api.FoundEvent, day int) []api.FoundEvent {
	var up []api.FoundEvent
	for _, x := range l {
		if x.Day <= day {
			up = append(up, x)
		}
	}
	return up
}

// slowHolder is the definition of the holder.
func slowHolder(x api.FoundItem, l []api.FoundEvent) string {
	if len(l) == 0 {
		return x.Finder
	}
	return l[len(l)-1].To
}

// slowState is the definition of the state.
func slowState(l []api.FoundEvent) int {
	state := api.FoundOut
	for _, x := range l {
		switch x.Kind {
		case api.FoundStored:
			state = api.FoundKeptHere
		case api.FoundReturned:
			state = api.FoundGiven
		case api.FoundTaken:
			state = api.FoundFinders
		case api.FoundSold:
			state = api.FoundGone
		}
	}
	return state
}

// slowRight is the definition of the right on a day, behind events up to its end.
func slowRight(l []api.FoundEvent, day int) int {
	for _, x := range l {
		if x.Kind == api.FoundReturned || x.Kind == api.FoundTaken || x.Kind == api.FoundSold {
			return api.FoundNobody
		}
	}
	for _, x := range l {
		if x.Kind == api.FoundStored && day > x.Day+210 {
			return api.FoundOffice
		}
		if x.Kind == api.FoundStored && day > x.Day+180 {
			return api.FoundFindersRight
		}
	}
	return api.FoundOwners
}

// slowError is the first error of an event behind others.
func slowError(x api.FoundItem, l []api.FoundEvent, next api.FoundEvent) api.Errno {
	last, right := x.Day, slowRight(l, next.Day)
	if len(l) > 0 {
		last = l[len(l)-1].Day
	}
	for _, c := range []struct {
		is bool
		e  api.Errno
	}{
		{next.Item != x.Name, api.ErrMissing},
		{next.Day < 0 || next.Day > 100000, api.ErrRange},
		{!slices.Contains([]int{api.FoundStored, api.FoundMoved, api.FoundReturned, api.FoundTaken, api.FoundSold}, next.Kind), api.ErrKind},
		{!slowIsName(next.From) || !slowIsName(next.To), api.ErrName},
		{next.Day < last, api.ErrOrder},
		{len(l) == 0 && next.Kind != api.FoundStored, api.ErrState},
		{len(l) > 0 && next.Kind == api.FoundStored, api.ErrState},
		{right == api.FoundNobody, api.ErrState},
		{next.From != slowHolder(x, l), api.ErrClash},
		{next.Kind == api.FoundTaken && next.To != x.Finder, api.ErrAllowed},
		{next.Kind == api.FoundTaken && right != api.FoundFindersRight, api.ErrLate},
		{next.Kind == api.FoundSold && right != api.FoundOffice, api.ErrLate},
	} {
		if c.is {
			return c.e
		}
	}
	return api.OK
}

// read is what ParseItem returns, of a text that must have the form.
func read(t *testing.T, s string) api.FoundItem {
	t.Helper()
	x, e := found.ParseItem(s)
	is(t, s, e, api.OK)
	return x
}
