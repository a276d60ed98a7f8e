package found_test

import (
	"fmt"
	"math"
	"math/rand"
	"slices"
	"strings"
	"sync"
	"testing"

	"fiacre/api"
	"fiacre/found"
)

// odd returns a number that is likely to be at an end of something.
func odd(r *rand.Rand) int {
	ends := []int{math.MinInt, -1000000001, -2, -1, 0, 1, 2, 3, 4, 5, 11, 12, 13, 180, 181, 210, 211, 99999, 100000, 100001, 1000000000, 1000000001, math.MaxInt}
	return ends[r.Intn(len(ends))]
}

// oddly returns a number, or now and then an odd one.
func oddly(r *rand.Rand, n int) int {
	if r.Intn(12) == 0 {
		return odd(r)
	}
	return n
}

// oddlyNamed returns a name, or now and then an odd one.
func oddlyNamed(r *rand.Rand, name string) string {
	if r.Intn(12) == 0 {
		return []string{"i0", "i1", "ann", "cap", "", "7", "\xff\n", "a b", "abcdefghijklm"}[r.Intn(9)]
	}
	return name
}

// spoiltItem returns an item of which something is changed now and then.
func spoiltItem(r *rand.Rand, x api.FoundItem) api.FoundItem {
	x = api.FoundItem{Name: oddlyNamed(r, x.Name), Day: oddly(r, x.Day), Finder: oddlyNamed(r, x.Finder), Marks: slices.Clone(x.Marks)}
	for i := range x.Marks {
		x.Marks[i].Value = oddlyNamed(r, x.Marks[i].Value)
	}
	if r.Intn(20) == 0 {
		x.Marks = slices.Repeat(x.Marks, r.Intn(4))
	}
	return x
}

// spoiltItems returns items of which something is changed now and then.
func spoiltItems(r *rand.Rand, l []api.FoundItem) []api.FoundItem {
	l = slices.Clone(l)
	if len(l) > 0 && r.Intn(3) == 0 {
		i := r.Intn(len(l))
		l[i] = spoiltItem(r, l[i])
	}
	if r.Intn(30) == 0 {
		l = slices.Repeat(l, r.Intn(4))
	}
	return l
}

// oddNumbers returns a few numbers, many of them odd.
func oddNumbers(r *rand.Rand) []int {
	var numbers []int
	for range r.Intn(4) {
		numbers = append(numbers, odd(r))
	}
	return numbers
}

// TestNoPanic is of P1: with whatever arguments every function ends, and beside an error all other results are zero values.
func TestNoPanic(t *testing.T) {
	r := rand.New(rand.NewSource(113))
	ends := zero(t)
	for range 10000 {
		l := spoiltItems(r, anyItems(r, 4, 2))
		c := wrongList{l: spoiltItems(r, anyItems(r, 4, 2))}.claims()
		x, events := anyChain(r, 6)
		y := wrong{item: spoiltItem(r, hat())}.claim()
		x = spoiltItem(r, x)
		for i := range events {
			events[i] = spoiltEvent(r, events[i])
		}
		ends(found.Agreement(x.Marks, y.Marks))
		ends(found.CanBe(x, y))
		ends(found.Candidates(l, y))
		ends(found.BestFor(l, y))
		ends(found.Ambiguous(l, c))
		ends(found.CheckPairs(l, c, [][2]int{{odd(r), odd(r)}, {odd(r), odd(r)}}))
		ends(found.CheckCover(l, c, cover(oddNumbers(r), oddNumbers(r))))
		ends(found.MostClaims(l, c))
		ends(found.HolderAt(x, events, odd(r)))
		ends(found.StateAt(x, events, odd(r)))
		ends(found.RightAt(x, events, odd(r)))
		ends(found.Overdue([]api.FoundKept{keptOf(hat(), kept()...), keptOf(x, events...)}, odd(r)))
		ends(found.RewardOf(odd(r)))
		ends(found.ParseItem(scribbled(r, "hat 10 ann ab=c b=a")))
		ends(found.ParseEvent(scribbled(r, "hat 20 stored ann bob")))
		found.CheckMarks(x.Marks)
		found.CheckItem(x)
		found.CheckClaim(y)
		found.CheckChain(x, events)
		found.FormatItem(x)
		found.FormatEvent(spoiltEvent(r, kept()[0]))
	}
}

// zero returns a function that takes a result and its error, and wants nothing beside an error.
func zero(t *testing.T) func(got any, e api.Errno) {
	t.Helper()
	return func(got any, e api.Errno) {
		t.Helper()
		if e < api.OK || e > api.ErrBalance || e != api.OK && !isNothing(got) {
			t.Errorf("beside the error %d: %v", e, got)
		}
	}
}

// roomy returns a list of the same elements with room behind it.
func roomy[T any](list []T) []T { return append(make([]T, 0, len(list)+9), list...) }

// behind returns a list, and what stands in the room behind it.
func behind[T any](list []T) string { return fmt.Sprint(list[:cap(list)]) }

// spoil changes all that a list has, and what is in the room behind it.
func spoil[T any](list []T, odd T) {
	for i := range list {
		list[i] = odd
	}
	_ = append(list, odd)
}

// TestMemory is of R3: arguments stay as they are, and results share no memory with them, or with each other.
func TestMemory(t *testing.T) {
	l, c := roomy(items()), roomy(claims())
	for i := range l {
		l[i].Marks = roomy(l[i].Marks)
		c[i].Marks = roomy(c[i].Marks)
	}
	events, pairs := roomy(kept()), roomy([][2]int{{0, 1}, {2, 0}})
	x := cover(roomy([]int{0}), roomy([]int{0, 1}))
	all := func() string {
		s := behind(l) + behind(c) + behind(events) + behind(pairs) + behind(x.Items) + behind(x.Claims)
		for i := range l {
			s += behind(l[i].Marks) + behind(c[i].Marks)
		}
		return s
	}
	before := all()
	spoil(first(found.Candidates(l, c[0])), 77)
	spoil(first(found.Ambiguous(l, c)), 77)
	spoil(first(found.Overdue([]api.FoundKept{keptOf(l[0], events...)}, 300)), 77)
	for _, many := range []int{1, 3} {
		spoilMost(t, first(found.MostClaims(l[:many], c)))
		spoilMost(t, first(found.MostClaims(l, c[:many])))
	}
	found.CheckMarks(l[0].Marks)
	found.CheckItem(l[0])
	found.CheckClaim(c[0])
	found.Agreement(l[0].Marks, c[0].Marks)
	found.CanBe(l[0], c[0])
	found.BestFor(l, c[0])
	found.CheckPairs(l, c, pairs)
	found.CheckCover(l, c, x)
	found.CheckChain(l[0], events)
	found.HolderAt(l[0], events, 25)
	found.StateAt(l[0], events, 25)
	found.RightAt(l[0], events, 25)
	found.FormatItem(l[0])
	if after := all(); after != before {
		t.Errorf("an argument was changed from %s to %s", before, after)
	}
}

// spoilMost changes all lists of a result, one after the other, and wants the others to stay as they are.
func spoilMost(t *testing.T, x api.FoundMost) {
	t.Helper()
	later := fmt.Sprint(x.Cover)
	spoil(x.Pairs, [2]int{77, 77})
	if got := fmt.Sprint(x.Cover); got != later {
		t.Errorf("the pairs change %s to %s", later, got)
	}
	later = fmt.Sprint(x.Cover.Claims)
	spoil(x.Cover.Items, 77)
	if got := fmt.Sprint(x.Cover.Claims); got != later {
		t.Errorf("the items change %s to %s", later, got)
	}
	spoil(x.Cover.Claims, 77)
}

// TestNothing is of R5: a nil list and an empty one are the same.
func TestNothing(t *testing.T) {
	for _, l := range [][]api.FoundMark{nil, {}} {
		at(t, "CheckMarks", 0, api.OK)(found.CheckMarks(l))
		gives(t, "Agreement", [2]int{})(found.Agreement(l, l))
		x := api.FoundItem{Name: "hat", Day: 1, Finder: "ann", Marks: l}
		is(t, "CheckItem", found.CheckItem(x), api.OK)
		gives(t, "CanBe", false)(found.CanBe(x, one()))
		if s := found.FormatItem(x); s != "hat 1 ann" {
			t.Errorf("the text of an item without marks is %q", s)
		}
	}
	for _, l := range [][]api.FoundItem{nil, {}} {
		gives(t, "Candidates", "[]")(found.Candidates(l, one()))
		fails(t, "BestFor", api.ErrNone)(found.BestFor(l, one()))
		gives(t, "Ambiguous", "[]")(found.Ambiguous(l, []api.FoundClaim{}))
		gives(t, "CheckPairs", 0)(found.CheckPairs(l, claims(), [][2]int{}))
		gives(t, "CheckCover", 0)(found.CheckCover(l, claims(), cover([]int{}, nil)))
		gives(t, "MostClaims", "{[] {[] []}}")(found.MostClaims(l, []api.FoundClaim{}))
	}
	for _, l := range [][]api.FoundEvent{nil, {}} {
		at(t, "CheckChain", 0, api.OK)(found.CheckChain(hat(), l))
		gives(t, "HolderAt", "ann")(found.HolderAt(hat(), l, 10))
		gives(t, "StateAt", api.FoundOut)(found.StateAt(hat(), l, 10))
		gives(t, "RightAt", api.FoundOwners)(found.RightAt(hat(), l, 10))
	}
	gives(t, "Overdue", "[]")(found.Overdue([]api.FoundKept{}, 10))
}

// TestLarge is of P1: also long texts and lists are soon done with.
func TestLarge(t *testing.T) {
	many := 1 << 20
	at(t, "CheckMarks of many", 0, api.ErrLarge)(found.CheckMarks(make([]api.FoundMark, many)))
	fails(t, "MostClaims of many items", api.ErrLarge)(found.MostClaims(make([]api.FoundItem, many), claims()))
	fails(t, "MostClaims of many claims", api.ErrLarge)(found.MostClaims(items(), make([]api.FoundClaim, many)))
	fails(t, "CheckPairs of many", api.ErrLarge)(found.CheckPairs(items(), claims(), make([][2]int, many)))
	fails(t, "CheckCover of many", api.ErrOrder)(found.CheckCover(items(), claims(), cover(make([]int, many), nil)))
	at(t, "CheckChain of many", 0, api.ErrLarge)(found.CheckChain(hat(), make([]api.FoundEvent, many)))
	fails(t, "Overdue of many", api.ErrLarge)(found.Overdue(make([]api.FoundKept, many), 5))
	fails(t, "Overdue of many events", api.ErrLarge)(found.Overdue([]api.FoundKept{keptOf(hat(), make([]api.FoundEvent, many)...)}, 5))
	fails(t, "ParseItem of many marks", api.ErrLarge)(found.ParseItem("hat 10 ann" + strings.Repeat(" a=b", many)))
	fails(t, "ParseItem of a long name", api.ErrName)(found.ParseItem(strings.Repeat("a", many) + " 10 ann"))
	fails(t, "ParseItem of a long number", api.ErrSyntax)(found.ParseItem("hat " + strings.Repeat("1", many) + " ann"))
	fails(t, "ParseEvent of many words", api.ErrSyntax)(found.ParseEvent("hat 10 stored ann" + strings.Repeat(" a", many)))
	text := found.FormatItem(api.FoundItem{Name: "hat", Finder: "ann", Marks: slices.Repeat(marks("a", "b"), many)})
	gives(t, "FormatItem of many marks", 9+4*many)(len(text), api.OK)
}

// TestAtOnce is of R4: results are the same, whatever else goes on.
func TestAtOnce(t *testing.T) {
	all := func() string {
		return fmt.Sprint(first(found.MostClaims(items(), claims())), first(found.Candidates(items(), one())), first(found.RightAt(hat(), kept(), 205)), first(found.Agreement(hat().Marks, one().Marks)))
	}
	wanted := all()
	var calls sync.WaitGroup
	for range 20 {
		calls.Go(func() {
			if got := all(); got != wanted {
				t.Errorf("first %s, and then %s", wanted, got)
			}
		})
	}
	calls.Wait()
}
