package found

import (
	"cmp"
	"slices"

	"fiacre/api"
	"fiacre/check"
)

// Agreement returns in how many keys two lists of marks agree, and in how many they differ.
func Agreement(a, b []api.FoundMark) ([2]int, api.Errno) {
	if e := check.First(errorOfMarks(a), errorOfMarks(b)); e != api.OK {
		return [2]int{}, e
	}
	agree, differ := compared(a, b)
	return [2]int{agree, differ}, api.OK
}

// compared returns in how many keys two lists of marks agree, and in how many they differ.
func compared(a, b []api.FoundMark) (agree, differ int) {
	values := map[string]string{}
	for _, mark := range a {
		values[mark.Key] = mark.Value
	}
	for _, mark := range b {
		value, both := values[mark.Key]
		switch {
		case both && value == mark.Value:
			agree++
		case both:
			differ++
		}
	}
	return agree, differ
}

// CanBe returns whether an item can be a claim.
func CanBe(x api.FoundItem, c api.FoundClaim) (bool, api.Errno) {
	if e := check.First(CheckItem(x), CheckClaim(c)); e != api.OK {
		return false, e
	}
	return canBe(x, c), api.OK
}

func canBe(x api.FoundItem, c api.FoundClaim) bool {
	agree, differ := compared(x.Marks, c.Marks)
	return x.Day >= c.Day-api.FoundSlack && differ == 0 && agree >= api.FoundAgree
}

// Candidates returns the numbers of all items that can be a claim.
func Candidates(l []api.FoundItem, c api.FoundClaim) ([]int, api.Errno) {
	if e := check.First(errorOfItems(l), CheckClaim(c)); e != api.OK {
		return nil, e
	}
	return candidates(l, c), api.OK
}

func candidates(l []api.FoundItem, c api.FoundClaim) []int {
	var numbers []int
	for i, x := range l {
		if canBe(x, c) {
			numbers = append(numbers, i)
		}
	}
	return numbers
}

// BestFor returns the number of the best candidate for a claim.
func BestFor(l []api.FoundItem, c api.FoundClaim) (int, api.Errno) {
	numbers, e := Candidates(l, c)
	if e != api.OK {
		return 0, e
	}
	if len(numbers) == 0 {
		return 0, api.ErrNone
	}
	return slices.MinFunc(numbers, func(i, j int) int { return comparedFor(c, l[i], l[j]) }), api.OK
}

// comparedFor compares two candidates for a claim: the better one is less.
func comparedFor(c api.FoundClaim, x, y api.FoundItem) int {
	agreeX, _ := compared(x.Marks, c.Marks)
	agreeY, _ := compared(y.Marks, c.Marks)
	return cmp.Or(cmp.Compare(agreeY, agreeX), cmp.Compare(apart(x.Day, c.Day), apart(y.Day, c.Day)))
}

// apart returns how many days are between two days.
func apart(a, b int) int { return max(a-b, b-a) }

// Ambiguous returns the numbers of all claims that have two candidates or more.
func Ambiguous(l []api.FoundItem, c []api.FoundClaim) ([]int, api.Errno) {
	if e := errorOfBoth(l, c); e != api.OK {
		return nil, e
	}
	var numbers []int
	for i, x := range c {
		if len(candidates(l, x)) >= 2 {
			numbers = append(numbers, i)
		}
	}
	return numbers, api.OK
}
