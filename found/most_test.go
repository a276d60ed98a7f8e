package found_test

import (
	"fmt"
	"math"
	"math/rand"
	"slices"
	"testing"

	"fiacre/api"
	"fiacre/found"
)

func cover(items, claims []int) api.FoundCover { return api.FoundCover{Items: items, Claims: claims} }

// TestCheckPairs is of P9.3: pairs of the examples, each error, and which comes ahead of which.
func TestCheckPairs(t *testing.T) {
	for _, pairs := range [][][2]int{nil, {{0, 0}}, {{2, 1}}, {{0, 0}, {2, 1}}, {{0, 1}, {2, 0}}} {
		gives(t, fmt.Sprint(pairs), len(pairs))(found.CheckPairs(items(), claims(), pairs))
	}
	for _, x := range []struct {
		what  string
		pairs [][2]int
		e     api.Errno
	}{
		{"too many", make([][2]int, 13), api.ErrLarge},
		{"too many ahead of one that is missing", slices.Repeat([][2]int{{-1, 7}}, 13), api.ErrLarge},
		{"twelve, so that the order decides", make([][2]int, 12), api.ErrOrder},
		{"no such item", [][2]int{{3, 0}}, api.ErrMissing},
		{"no such claim", [][2]int{{0, 3}}, api.ErrMissing},
		{"an item below 0", [][2]int{{0, 0}, {-1, 1}}, api.ErrMissing},
		{"a claim below 0", [][2]int{{0, 0}, {2, -1}}, api.ErrMissing},
		{"the greatest item", [][2]int{{math.MaxInt, 0}}, api.ErrMissing},
		{"the least claim", [][2]int{{0, math.MinInt}}, api.ErrMissing},
		{"an item twice", [][2]int{{0, 0}, {0, 1}}, api.ErrOrder},
		{"items that fall", [][2]int{{2, 0}, {0, 1}}, api.ErrOrder},
		{"a claim twice", [][2]int{{0, 0}, {2, 0}}, api.ErrDouble},
		{"an item that cannot be the claim", [][2]int{{1, 0}}, api.ErrClash},
		{"a claim that no item can be", [][2]int{{0, 0}, {2, 2}}, api.ErrClash},
		{"missing ahead of the order", [][2]int{{2, 0}, {0, 3}}, api.ErrMissing},
		{"the order ahead of a claim twice", [][2]int{{2, 0}, {0, 0}}, api.ErrOrder},
		{"a claim twice ahead of what cannot be", [][2]int{{0, 0}, {1, 0}}, api.ErrDouble},
		{"one by one", [][2]int{{1, 0}, {5, 5}}, api.ErrClash},
	} {
		fails(t, x.what, x.e)(found.CheckPairs(items(), claims(), x.pairs))
	}
	l := append(items(), item("tie", 11, "bob", "color", "red", "kind", "hat"))
	fails(t, "a claim of a pair that is not the last one", api.ErrDouble)(found.CheckPairs(l, claims(), [][2]int{{0, 0}, {2, 1}, {3, 0}}))
	gives(t, "none of none", 0)(found.CheckPairs(nil, nil, nil))
	fails(t, "one of none", api.ErrMissing)(found.CheckPairs(nil, nil, [][2]int{{0, 0}}))
}

// TestCheckCover is of P9.3: covers of the examples, each error, and which comes ahead of which.
func TestCheckCover(t *testing.T) {
	for _, x := range []struct {
		c      api.FoundCover
		wanted int
	}{{cover([]int{0, 2}, nil), 2}, {cover(nil, []int{0, 1}), 2}, {cover([]int{0, 1, 2}, nil), 3}, {cover([]int{0, 2}, []int{2}), 3}, {cover([]int{0, 1, 2}, []int{0, 1, 2}), 6}} {
		gives(t, fmt.Sprint(x.c), x.wanted)(found.CheckCover(items(), claims(), x.c))
	}
	for _, x := range []struct {
		what string
		c    api.FoundCover
		e    api.Errno
	}{
		{"nothing", cover(nil, nil), api.ErrProof},
		{"one item", cover([]int{0}, nil), api.ErrProof},
		{"one claim", cover(nil, []int{1}), api.ErrProof},
		{"an item and a claim", cover([]int{0}, []int{0}), api.ErrProof},
		{"others", cover([]int{1}, []int{2}), api.ErrProof},
		{"no such item", cover([]int{0, 2, 3}, nil), api.ErrMissing},
		{"no such claim", cover([]int{0, 2}, []int{3}), api.ErrMissing},
		{"an item below 0", cover([]int{-1}, nil), api.ErrMissing},
		{"a claim below 0", cover(nil, []int{-1}), api.ErrMissing},
		{"the greatest item", cover([]int{math.MaxInt}, nil), api.ErrMissing},
		{"an item twice", cover([]int{0, 2, 2}, nil), api.ErrOrder},
		{"items that fall", cover([]int{2, 0}, nil), api.ErrOrder},
		{"claims that fall", cover(nil, []int{1, 0}), api.ErrOrder},
		{"a claim twice", cover([]int{0, 2}, []int{0, 0}), api.ErrOrder},
		{"items ahead of claims", cover([]int{2, 0}, []int{-1}), api.ErrOrder},
		{"missing ahead of the order", cover([]int{2, -1}, nil), api.ErrMissing},
		{"one by one", cover([]int{2, 1, 7}, nil), api.ErrOrder},
		{"numbers ahead of the proof", cover(nil, []int{7}), api.ErrMissing},
	} {
		fails(t, x.what, x.e)(found.CheckCover(items(), claims(), x.c))
	}
	gives(t, "none of none", 0)(found.CheckCover(nil, nil, cover(nil, nil)))
	fails(t, "one of none", api.ErrMissing)(found.CheckCover(nil, nil, cover([]int{0}, nil)))
	// More claims than items, so that a number of one is none of the other.
	gives(t, "a claim of more than items", 2)(found.CheckCover(items()[:1], claims(), cover([]int{0}, []int{2})))
	fails(t, "an item of fewer than claims", api.ErrMissing)(found.CheckCover(items()[:1], claims(), cover([]int{1}, nil)))
	gives(t, "an item of more than claims", 2)(found.CheckCover(items(), claims()[:1], cover([]int{0, 2}, nil)))
	fails(t, "a claim of fewer than items", api.ErrMissing)(found.CheckCover(items(), claims()[:1], cover(nil, []int{1})))
}

// most calls MostClaims, wants both its parts to be accepted and to be as many, and returns how many.
func most(t *testing.T, l []api.FoundItem, c []api.FoundClaim) int {
	t.Helper()
	what := fmt.Sprint("MostClaims of ", l, " and ", c)
	x, e := found.MostClaims(l, c)
	if e != api.OK {
		t.Fatalf("%s: error %d", what, e)
	}
	gives(t, what, len(x.Pairs))(found.CheckPairs(l, c, x.Pairs))
	gives(t, what, len(x.Pairs))(found.CheckCover(l, c, x.Cover))
	if !slowIsCover(l, c, x.Cover) {
		t.Errorf("%s: no cover is %v", what, x.Cover)
	}
	for _, p := range x.Pairs {
		if !slowCanBe(l[p[0]], c[p[1]]) {
			t.Errorf("%s: %v", what, x.Pairs)
		}
	}
	return len(x.Pairs)
}

// ladder returns so many items and claims: the item i can be the claims i and i+1, if they are there.
func ladder(many int) ([]api.FoundItem, []api.FoundClaim) {
	l, c := numbered(many), wrongList{l: numbered(many)}.claims()
	for i := range many {
		a, b := fmt.Sprint("k", string(rune('a'+i))), fmt.Sprint("k", string(rune('b'+i)))
		l[i].Marks = marks(a, "x", a+"-", "x", b, "x", b+"-", "x")
		c[i].Marks = marks(a, "x", a+"-", "x")
	}
	return l, c
}

// TestMostClaims is of P9.3 and P9.8: the examples, none, and items that are handed on along a whole row.
func TestMostClaims(t *testing.T) {
	if n := most(t, items(), claims()); n != 2 {
		t.Errorf("the examples: %d pairs", n)
	}
	gives(t, "of no items", "{[] {[] []}}")(found.MostClaims(nil, claims()))
	gives(t, "of no claims", "{[] {[] []}}")(found.MostClaims(items(), nil))
	gives(t, "of none", "{[] {[] []}}")(found.MostClaims(nil, nil))
	gives(t, "of a claim without a candidate", "{[] {[] []}}")(found.MostClaims(items(), []api.FoundClaim{three()}))
	if n := most(t, items(), []api.FoundClaim{one()}); n != 1 {
		t.Errorf("one claim of two items: %d pairs", n)
	}
	if n := most(t, items()[:1], claims()); n != 1 {
		t.Errorf("two claims of one item: %d pairs", n)
	}
	l, c := ladder(12)
	if n := most(t, l, c); n != 12 {
		t.Errorf("a row of twelve: %d pairs", n)
	}
	if n := most(t, l, c[1:]); n != 11 {
		t.Errorf("a row without its first claim: %d pairs", n)
	}
	if n := most(t, l[1:], c); n != 11 {
		t.Errorf("a row without its first item: %d pairs", n)
	}
	slices.Reverse(l)
	if n := most(t, l, c[1:]); n != 11 {
		t.Errorf("a row backward: %d pairs", n)
	}
}

// TestAllPairs is of P9.3: all items can be all claims, and for as many as there may be this is soon done.
func TestAllPairs(t *testing.T) {
	l, c := numbered(12), wrongList{l: numbered(12)}.claims()
	for i := range 12 {
		l[i].Marks, c[i].Marks = marks("a", "v", "b", "v"), marks("a", "v", "b", "v")
	}
	for i := range 13 {
		for j := range 13 {
			if n := most(t, l[:i], c[:j]); n != min(i, j) {
				t.Errorf("%d items and %d claims: %d pairs", i, j, n)
			}
		}
	}
}

// TestNoMore is of P9.3 and P9.8: of random items and claims there are never more pairs than MostClaims has, by all ways to pair them.
func TestNoMore(t *testing.T) {
	r := rand.New(rand.NewSource(104))
	for range 3000 {
		values := 1 + r.Intn(3)
		l, c := anyItems(r, 6, values), anyClaims(r, 6, values)
		if n := most(t, l, c); n != slowMost(l, c) {
			t.Errorf("MostClaims of %v and %v: %d pairs, want %d", l, c, n, slowMost(l, c))
		}
	}
	for range 3000 {
		most(t, anyItems(r, 12, 2), anyClaims(r, 12, 2))
	}
}

// TestPairsAndCovers is of P9.3 and P9.8: random pairs and covers are accepted if they are such, and of those that are the pairs are never more.
func TestPairsAndCovers(t *testing.T) {
	r := rand.New(rand.NewSource(105))
	accepted := 0
	for range 5000 {
		l, c := anyItems(r, 5, 2), anyClaims(r, 5, 2)
		x := cover(anyNumbers(r, len(l)), anyNumbers(r, len(c)))
		what := fmt.Sprint(l, " and ", c, " with ", x)
		if !slowIsCover(l, c, x) {
			fails(t, what, api.ErrProof)(found.CheckCover(l, c, x))
			continue
		}
		size := len(x.Items) + len(x.Claims)
		gives(t, what, size)(found.CheckCover(l, c, x))
		var pairs [][2]int
		for _, i := range anyNumbers(r, len(l)) {
			for _, j := range r.Perm(len(c)) {
				more := append(slices.Clone(pairs), [2]int{i, j})
				if _, e := found.CheckPairs(l, c, more); e == api.OK {
					pairs = more
				}
			}
		}
		if n, e := found.CheckPairs(l, c, pairs); n > size || e != api.OK {
			t.Errorf("%s: more pairs than the cover has: %v", what, pairs)
		}
		accepted += len(pairs)
	}
	if accepted < 1000 {
		t.Errorf("too few pairs: %d", accepted)
	}
}

// anyNumbers returns random ascending numbers below a limit.
func anyNumbers(r *rand.Rand, limit int) []int {
	var numbers []int
	for i := range limit {
		if r.Intn(3) > 0 {
			numbers = append(numbers, i)
		}
	}
	return numbers
}
