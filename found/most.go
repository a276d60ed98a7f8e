package found

import (
	"cmp"
	"slices"

	"fiacre/api"
	"fiacre/check"
)

// nobody stands for the item of a claim that is in no pair.
const nobody = -1

// CheckPairs returns how many pairs there are, if they are pairs of items and claims.
func CheckPairs(l []api.FoundItem, c []api.FoundClaim, pairs [][2]int) (int, api.Errno) {
	if e := errorOfBoth(l, c); e != api.OK {
		return 0, e
	}
	_, e := check.List(len(pairs), api.MaxFoundItems, func(i int) api.Errno { return errorOfPair(l, c, pairs[:i], pairs[i]) })
	if e != api.OK {
		return 0, e
	}
	return len(pairs), api.OK
}

// errorOfPair returns the error of a pair behind others.
func errorOfPair(l []api.FoundItem, c []api.FoundClaim, before [][2]int, pair [2]int) api.Errno {
	item, claim := pair[0], pair[1]
	switch {
	case !check.Within(item, 0, len(l)-1) || !check.Within(claim, 0, len(c)-1):
		return api.ErrMissing
	case len(before) > 0 && item <= before[len(before)-1][0]:
		return api.ErrOrder
	case slices.ContainsFunc(before, func(p [2]int) bool { return p[1] == claim }):
		return api.ErrDouble
	case !canBe(l[item], c[claim]):
		return api.ErrClash
	}
	return api.OK
}

// CheckCover returns the size of a cover, if it is one.
func CheckCover(l []api.FoundItem, c []api.FoundClaim, x api.FoundCover) (int, api.Errno) {
	if e := check.First(errorOfBoth(l, c), errorOfNumbers(x.Items, len(l)), errorOfNumbers(x.Claims, len(c))); e != api.OK {
		return 0, e
	}
	for item, row := range possible(l, c) {
		for claim, can := range row {
			if can && !slices.Contains(x.Items, item) && !slices.Contains(x.Claims, claim) {
				return 0, api.ErrProof
			}
		}
	}
	return len(x.Items) + len(x.Claims), api.OK
}

// errorOfNumbers returns the error of ascending numbers in a list of so many.
func errorOfNumbers(numbers []int, many int) api.Errno {
	for i, n := range numbers {
		switch {
		case !check.Within(n, 0, many-1):
			return api.ErrMissing
		case i > 0 && n <= numbers[i-1]:
			return api.ErrOrder
		}
	}
	return api.OK
}

// possible returns of each item, and each claim, whether the item can be the claim.
func possible(l []api.FoundItem, c []api.FoundClaim) [][]bool {
	rows := make([][]bool, len(l))
	for item, x := range l {
		rows[item] = make([]bool, len(c))
		for claim, y := range c {
			rows[item][claim] = canBe(x, y)
		}
	}
	return rows
}

// A matching is pairs to which items are added one by one.
type matching struct {
	can    [][]bool // of each item and each claim
	itemOf []int    // of each claim, or nobody
	closed []bool   // of each claim whether an item was not added from which a way leads to it
}

// MostClaims returns as many pairs as there can be, and a cover that proves it.
func MostClaims(l []api.FoundItem, c []api.FoundClaim) (api.FoundMost, api.Errno) {
	if e := errorOfBoth(l, c); e != api.OK {
		return api.FoundMost{}, e
	}
	m := matching{can: possible(l, c), itemOf: slices.Repeat([]int{nobody}, len(c)), closed: make([]bool, len(c))}
	for item := range l {
		// No way leads out of closed claims, so that no later item need look at them, and their pairs stay.
		seen := slices.Clone(m.closed)
		if !m.add(item, seen) {
			m.closed = seen
		}
	}
	return m.most(), api.OK
}

// add gives an item a claim, for which other items may change theirs, and tells whether it could; it marks the claims that it looks at.
func (m *matching) add(item int, seen []bool) bool {
	for claim, can := range m.can[item] {
		if !can || seen[claim] {
			continue
		}
		seen[claim] = true
		if m.itemOf[claim] == nobody || m.add(m.itemOf[claim], seen) {
			m.itemOf[claim] = item
			return true
		}
	}
	return false
}

// most returns the pairs, and the cover that has of each of them the claim, if it is closed, and the item otherwise.
func (m *matching) most() api.FoundMost {
	var x api.FoundMost
	for claim, item := range m.itemOf {
		if item == nobody {
			continue
		}
		x.Pairs = append(x.Pairs, [2]int{item, claim})
		if m.closed[claim] {
			x.Cover.Claims = append(x.Cover.Claims, claim)
		} else {
			x.Cover.Items = append(x.Cover.Items, item)
		}
	}
	slices.SortFunc(x.Pairs, func(a, b [2]int) int { return cmp.Compare(a[0], b[0]) })
	slices.Sort(x.Cover.Items)
	return x
}
