package found_test

import (
	"fmt"
	"math"
	"math/rand"
	"slices"
	"testing"

	"fiacre/api"
	"fiacre/found"
)

// eight is as many marks as there may be.
func eight() []api.FoundMark {
	return marks("A", "v", "B", "v", "a", "v", "b", "v", "c", "v", "d", "v", "e", "v", "f", "v")
}

// wrongMarks is marks with their first error, and the number of the mark that has it.
var wrongMarks = []struct {
	what   string
	l      []api.FoundMark
	number int
	e      api.Errno
}{
	{"too many", append(eight(), marks("g", "v")...), 0, api.ErrLarge},
	{"too many ahead of their names", make([]api.FoundMark, 9), 0, api.ErrLarge},
	{"no key", marks("a", "v", "", "v"), 1, api.ErrName},
	{"no value", marks("a", "v", "b", ""), 1, api.ErrName},
	{"a key that begins with a digit", marks("7", "v"), 0, api.ErrName},
	{"a long key", marks("abcdefghijklm", "v"), 0, api.ErrName},
	{"a long value", marks("a", "abcdefghijklm"), 0, api.ErrName},
	{"a value of two words", marks("a", "b c"), 0, api.ErrName},
	{"a value that begins with a line", marks("a", "v", "b", "-v"), 1, api.ErrName},
	{"a value with a byte that is no letter", marks("a", "v\xff"), 0, api.ErrName},
	{"a key twice", marks("a", "v", "a", "w"), 1, api.ErrOrder},
	{"a mark twice", marks("a", "v", "b", "v", "b", "v"), 2, api.ErrOrder},
	{"keys that fall", marks("a", "v", "c", "v", "b", "v"), 2, api.ErrOrder},
	{"a small letter ahead of a capital one", marks("a", "v", "B", "v"), 1, api.ErrOrder},
	{"names ahead of the order", marks("b", "v", "a", ""), 1, api.ErrName},
	{"mark by mark", marks("b", "v", "a", "v", "", "v"), 1, api.ErrOrder},
}

// TestCheckMarks is of P9.1: right marks, each error, which comes ahead of which, and its number.
func TestCheckMarks(t *testing.T) {
	for _, l := range [][]api.FoundMark{nil, marks("a", "v"), hat().Marks, eight(), marks("Z", "v", "a", "v"), marks("a", "v", "a-", "v", "a0", "v", "aA", "v", "aa", "v"), marks("abcdefghijk-", "A-0123456789")} {
		at(t, fmt.Sprint(l), 0, api.OK)(found.CheckMarks(l))
	}
	for _, x := range wrongMarks {
		at(t, x.what, x.number, x.e)(found.CheckMarks(x.l))
	}
}

// TestCheckItem is of P9.1: items and claims, each error, and which comes ahead of which.
func TestCheckItem(t *testing.T) {
	for _, x := range append(items(), item("a", 0, "a"), item("A-0123456789", 100000, "A-0123456789"), item("a", 5, "b", "c", "d")) {
		is(t, fmt.Sprint(x), found.CheckItem(x), api.OK)
		is(t, fmt.Sprint(x), found.CheckClaim(api.FoundClaim{Name: x.Name, Day: x.Day, Owner: x.Finder, Marks: x.Marks}), api.OK)
	}
	for _, x := range wrongItems() {
		is(t, x.what, found.CheckItem(x.item), x.e)
		is(t, x.what, found.CheckClaim(x.claim()), x.e)
	}
}

// A wrong is an item with its first error.
type wrong struct {
	what string
	item api.FoundItem
	e    api.Errno
}

// claim is a claim with the same error.
func (x wrong) claim() api.FoundClaim {
	return api.FoundClaim{Name: x.item.Name, Day: x.item.Day, Owner: x.item.Finder, Marks: x.item.Marks}
}

func wrongItems() []wrong {
	l := []wrong{
		{"nothing", api.FoundItem{}, api.ErrName},
		{"no name", item("", 1, "ann"), api.ErrName},
		{"nobody", item("hat", 1, ""), api.ErrName},
		{"a long name", item("abcdefghijklm", 1, "ann"), api.ErrName},
		{"somebody with a long name", item("hat", 1, "abcdefghijklm"), api.ErrName},
		{"a name of two words", item("a hat", 1, "ann"), api.ErrName},
		{"a day below 0", item("hat", -1, "ann"), api.ErrRange},
		{"a day behind all dates", item("hat", 100001, "ann"), api.ErrRange},
		{"the least day", item("hat", math.MinInt, "ann"), api.ErrRange},
		{"the greatest day", item("hat", math.MaxInt, "ann"), api.ErrRange},
		{"names ahead of the day", item("hat", -1, "7"), api.ErrName},
		{"the name ahead of the day", item("7", -1, "ann"), api.ErrName},
		{"names ahead of marks", item("hat", 1, "", "a", ""), api.ErrName},
		{"the day ahead of marks", item("hat", -1, "ann", "a", ""), api.ErrRange},
	}
	for _, x := range wrongMarks {
		l = append(l, wrong{x.what, api.FoundItem{Name: "hat", Finder: "ann", Marks: x.l}, x.e})
	}
	return l
}

// TestAgreement is of P9.1: the marks of the examples, and others; the errors of the first list come ahead.
func TestAgreement(t *testing.T) {
	for _, x := range []struct {
		a, b   []api.FoundMark
		wanted [2]int
	}{
		{hat().Marks, one().Marks, [2]int{2, 0}},
		{items()[1].Marks, one().Marks, [2]int{1, 1}},
		{hat().Marks, two().Marks, [2]int{3, 0}},
		{hat().Marks, three().Marks, [2]int{1, 1}},
		{nil, nil, [2]int{0, 0}},
		{nil, hat().Marks, [2]int{0, 0}},
		{marks("a", "b"), marks("b", "a"), [2]int{0, 0}},
		{marks("a", "b"), marks("A", "b"), [2]int{0, 0}},
		{marks("a", "b"), marks("a", "B"), [2]int{0, 1}},
		{marks("a", "x", "b", "y", "c", "z"), marks("b", "x", "c", "z", "d", "x"), [2]int{1, 1}},
		{eight(), eight(), [2]int{8, 0}},
		{eight(), marks("A", "w", "B", "w", "a", "w", "b", "w", "c", "w", "d", "w", "e", "w", "f", "w"), [2]int{0, 8}},
	} {
		gives(t, fmt.Sprint(x.a, " and ", x.b), x.wanted)(found.Agreement(x.a, x.b))
	}
	for _, x := range wrongMarks {
		fails(t, x.what+" first", x.e)(found.Agreement(x.l, marks("b", "v", "a", "")))
		fails(t, x.what+" behind", x.e)(found.Agreement(hat().Marks, x.l))
	}
}

// TestEitherWay is of P9.1 and P9.7: marks agree and differ as the definition says, the same the other way round, and with themselves in all keys.
func TestEitherWay(t *testing.T) {
	r := rand.New(rand.NewSource(101))
	for range 3000 {
		a, b := anyMarks(r, 3), anyMarks(r, 3)
		what := fmt.Sprint(a, " and ", b)
		gives(t, what, slowAgreement(a, b))(found.Agreement(a, b))
		gives(t, what, first(found.Agreement(a, b)))(found.Agreement(b, a))
		gives(t, what, [2]int{len(a), 0})(found.Agreement(a, a))
	}
}

// TestMarkLess is of P9.7: with one mark less an item that could be a claim differs in no key, and agrees in one less at most.
func TestMarkLess(t *testing.T) {
	r := rand.New(rand.NewSource(102))
	could := 0
	for range 5000 {
		x, c := item("hat", 5, "ann"), claim("one", 5, "cid")
		x.Marks, c.Marks = anyMarks(r, 2), anyMarks(r, 2)
		if can := first(found.CanBe(x, c)); !can || len(x.Marks) == 0 {
			continue
		}
		could++
		before := first(found.Agreement(x.Marks, c.Marks))
		i := r.Intn(len(x.Marks))
		x.Marks = slices.Delete(slices.Clone(x.Marks), i, i+1)
		after, e := found.Agreement(x.Marks, c.Marks)
		if e != api.OK || after[1] != 0 || after[0] > before[0] || after[0] < before[0]-1 {
			t.Errorf("%v and %v: %v, and %v ahead, error %d", x.Marks, c.Marks, after, before, e)
		}
		gives(t, fmt.Sprint(x, " and ", c), after[0] >= 2)(found.CanBe(x, c))
	}
	if could < 300 {
		t.Errorf("too few items could be a claim: %d", could)
	}
}
