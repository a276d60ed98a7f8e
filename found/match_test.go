package found_test

import (
	"fmt"
	"math/rand"
	"testing"

	"fiacre/api"
	"fiacre/found"
)

// A wrongList is a list of items with its first error.
type wrongList struct {
	what string
	l    []api.FoundItem
	e    api.Errno
}

// claims is claims with the same error.
func (x wrongList) claims() []api.FoundClaim {
	var c []api.FoundClaim
	for _, i := range x.l {
		c = append(c, wrong{item: i}.claim())
	}
	return c
}

func wrongLists() []wrongList {
	l := []wrongList{
		{"too many", numbered(13), api.ErrLarge},
		{"too many ahead of their errors", make([]api.FoundItem, 13), api.ErrLarge},
		{"a name twice", append(numbered(11), item("i3", 0, "ann")), api.ErrExists},
		{"a name of another one", append(items(), item("hat", 7, "bob")), api.ErrExists},
		{"an error ahead of a name twice", append(items(), item("hat", -1, "bob")), api.ErrRange},
		{"marks ahead of a name twice", append(items(), item("hat", 1, "bob", "a", "v", "a", "v")), api.ErrOrder},
		{"one by one", append(items(), item("hat", 7, "bob"), api.FoundItem{}), api.ErrExists},
	}
	for _, x := range wrongItems() {
		l = append(l, wrongList{x.what, append(numbered(3), x.item), x.e})
		l = append(l, wrongList{x.what + " ahead", append([]api.FoundItem{x.item}, numbered(3)...), x.e})
	}
	return l
}

// wrongPairs and wrongCover have errors that come behind all those of items and claims.
var wrongPairs = [][2]int{{-1, -1}}

var wrongCover = api.FoundCover{Items: []int{-1}}

// TestMatchErrors is of P9.2 and P9.3: of items and claims each error, those of the items first, and ahead of what comes behind.
func TestMatchErrors(t *testing.T) {
	for _, x := range wrongLists() {
		bad := []api.FoundClaim{{Day: -1}}
		if x.e == api.ErrName {
			bad = []api.FoundClaim{claim("one", -1, "cid")}
		}
		fails(t, "Candidates: "+x.what, x.e)(found.Candidates(x.l, bad[0]))
		fails(t, "BestFor: "+x.what, x.e)(found.BestFor(x.l, bad[0]))
		fails(t, "Ambiguous: "+x.what, x.e)(found.Ambiguous(x.l, bad))
		fails(t, "CheckPairs: "+x.what, x.e)(found.CheckPairs(x.l, bad, wrongPairs))
		fails(t, "CheckCover: "+x.what, x.e)(found.CheckCover(x.l, bad, wrongCover))
		fails(t, "MostClaims: "+x.what, x.e)(found.MostClaims(x.l, bad))
		c := x.claims()
		fails(t, "Ambiguous by claims: "+x.what, x.e)(found.Ambiguous(items(), c))
		fails(t, "CheckPairs by claims: "+x.what, x.e)(found.CheckPairs(items(), c, wrongPairs))
		fails(t, "CheckCover by claims: "+x.what, x.e)(found.CheckCover(items(), c, wrongCover))
		fails(t, "MostClaims by claims: "+x.what, x.e)(found.MostClaims(items(), c))
	}
	for _, x := range wrongItems() {
		fails(t, "CanBe: "+x.what, x.e)(found.CanBe(x.item, api.FoundClaim{Name: "one", Owner: "cid", Day: -1}))
		fails(t, "CanBe by the claim: "+x.what, x.e)(found.CanBe(hat(), x.claim()))
		fails(t, "Candidates by the claim: "+x.what, x.e)(found.Candidates(items(), x.claim()))
		fails(t, "BestFor by the claim: "+x.what, x.e)(found.BestFor(items(), x.claim()))
	}
	fails(t, "CanBe, the item first", api.ErrRange)(found.CanBe(item("hat", -1, "ann"), api.FoundClaim{}))
}

// TestNamesOfBoth is of P9.2: an item and a claim may have one name, and two claims one owner.
func TestNamesOfBoth(t *testing.T) {
	c := []api.FoundClaim{claim("hat", 1, "cid"), claim("cap", 1, "cid"), claim("Hat", 1, "cid")}
	gives(t, "Ambiguous", "[]")(found.Ambiguous(items(), c))
	gives(t, "twelve of both", "[]")(found.Ambiguous(numbered(12), wrongList{l: numbered(12)}.claims()))
	gives(t, "MostClaims of twelve", "{[] {[] []}}")(found.MostClaims(numbered(12), wrongList{l: numbered(12)}.claims()))
}

// TestCanBe is of P9.2: the days, the keys that agree, and those that differ.
func TestCanBe(t *testing.T) {
	for _, x := range []struct {
		what   string
		x      api.FoundItem
		c      api.FoundClaim
		wanted bool
	}{
		{"hat and one", hat(), one(), true},
		{"hat and two", hat(), two(), true},
		{"hat and three", hat(), three(), false},
		{"cap and one", items()[1], one(), false},
		{"three days ahead", item("i", 9, "ann", "a", "v", "b", "v"), claim("c", 12, "cid", "a", "v", "b", "v"), true},
		{"four days ahead", item("i", 8, "ann", "a", "v", "b", "v"), claim("c", 12, "cid", "a", "v", "b", "v"), false},
		{"long behind", item("i", 100000, "ann", "a", "v", "b", "v"), claim("c", 0, "cid", "a", "v", "b", "v"), true},
		{"long ahead", item("i", 0, "ann", "a", "v", "b", "v"), claim("c", 100000, "cid", "a", "v", "b", "v"), false},
		{"the first days", item("i", 0, "ann", "a", "v", "b", "v"), claim("c", 3, "cid", "a", "v", "b", "v"), true},
		{"one key", item("i", 5, "ann", "a", "v", "b", "v"), claim("c", 5, "cid", "a", "v"), false},
		{"one key of many", item("i", 5, "ann", "a", "v", "b", "v", "c", "v"), claim("c", 5, "cid", "a", "v", "d", "v"), false},
		{"two keys of many", item("i", 5, "ann", "a", "v", "b", "v", "c", "v"), claim("c", 5, "cid", "a", "v", "b", "v", "d", "v"), true},
		{"two keys, and one that differs", item("i", 5, "ann", "a", "v", "b", "v", "c", "v"), claim("c", 5, "cid", "a", "v", "b", "v", "c", "w"), false},
		{"seven keys, and one that differs", item("i", 5, "ann", "A", "w", "B", "v", "a", "v", "b", "v", "c", "v", "d", "v", "e", "v", "f", "v"), api.FoundClaim{Name: "c", Day: 5, Owner: "cid", Marks: eight()}, false},
		{"eight keys", api.FoundItem{Name: "i", Finder: "ann", Marks: eight()}, api.FoundClaim{Name: "c", Owner: "cid", Marks: eight()}, true},
		{"no marks", item("i", 5, "ann"), claim("c", 5, "cid"), false},
	} {
		gives(t, x.what, x.wanted)(found.CanBe(x.x, x.c))
	}
}

// TestCandidates is of P9.2: the candidates of the examples, the best ones, and claims without any.
func TestCandidates(t *testing.T) {
	gives(t, "one", "[0 2]")(found.Candidates(items(), one()))
	gives(t, "two", "[0 2]")(found.Candidates(items(), two()))
	gives(t, "three", "[]")(found.Candidates(items(), three()))
	gives(t, "of no items", "[]")(found.Candidates(nil, one()))
	gives(t, "of one mark", "[]")(found.Candidates(items(), claim("one", 1, "cid", "color", "red")))
	gives(t, "the best one of one", 2)(found.BestFor(items(), one()))
	gives(t, "the best one of two", 0)(found.BestFor(items(), two()))
	fails(t, "the best one of three", api.ErrNone)(found.BestFor(items(), three()))
	fails(t, "the best one of no items", api.ErrNone)(found.BestFor(nil, one()))
	gives(t, "Ambiguous", "[0 1]")(found.Ambiguous(items(), claims()))
	gives(t, "Ambiguous of one item", "[]")(found.Ambiguous(items()[:1], claims()))
	gives(t, "Ambiguous of no items", "[]")(found.Ambiguous(nil, claims()))
	gives(t, "Ambiguous of no claims", "[]")(found.Ambiguous(items(), nil))
}

// TestBestFor is of P9.2: more keys come ahead of nearer days, ahead or behind, and of several items the first one is best.
func TestBestFor(t *testing.T) {
	c := claim("c", 20, "cid", "a", "v", "b", "v", "c", "v")
	on := func(day int, more ...string) api.FoundItem {
		return item(fmt.Sprintf("i%d-%d", day, len(more)), day, "ann", append([]string{"a", "v", "b", "v"}, more...)...)
	}
	for _, x := range []struct {
		what   string
		l      []api.FoundItem
		wanted int
	}{
		{"more keys", []api.FoundItem{on(20), on(900, "c", "v")}, 1},
		{"more marks that are not claimed", []api.FoundItem{on(21), on(22, "x", "v", "y", "v")}, 0},
		{"a nearer day behind", []api.FoundItem{on(23), on(22), on(25)}, 1},
		{"a nearer day ahead", []api.FoundItem{on(17), on(23), on(18), on(22)}, 2},
		{"as near behind and ahead", []api.FoundItem{on(22), on(18)}, 0},
		{"as near ahead and behind", []api.FoundItem{on(18), on(22)}, 0},
		{"too far ahead", []api.FoundItem{on(16, "c", "v"), on(100000)}, 1},
		{"one that differs", []api.FoundItem{on(20, "c", "w"), on(40)}, 1},
	} {
		gives(t, x.what, x.wanted)(found.BestFor(x.l, c))
	}
}

// TestAnyCandidates is of P9.2: candidates of random items and claims, item by item.
func TestAnyCandidates(t *testing.T) {
	r := rand.New(rand.NewSource(103))
	for range 3000 {
		values := 1 + r.Intn(2)
		l, c := anyItems(r, 12, values), anyClaims(r, 12, values)
		what := fmt.Sprint(l, " and ", c)
		var several []int
		for j, y := range c {
			var numbers []int
			for i, x := range l {
				gives(t, what, slowCanBe(x, y))(found.CanBe(x, y))
				if slowCanBe(x, y) {
					numbers = append(numbers, i)
				}
			}
			gives(t, what, fmt.Sprint(numbers))(found.Candidates(l, y))
			if best, is := slowBest(l, y); is {
				gives(t, what, best)(found.BestFor(l, y))
			} else {
				fails(t, what, api.ErrNone)(found.BestFor(l, y))
			}
			if len(numbers) > 1 {
				several = append(several, j)
			}
		}
		gives(t, what, fmt.Sprint(several))(found.Ambiguous(l, c))
	}
}
