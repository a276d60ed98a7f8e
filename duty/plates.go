package duty

import (
	"cmp"
	"slices"

	"fiacre/api"
	"fiacre/check"
)

// Plates returns plates of uses, as few as possible.
func Plates(l []api.DutyUse) (api.DutyPlates, api.Errno) {
	if e := errorOfUses(l); e != api.OK {
		return api.DutyPlates{}, e
	}
	p := api.DutyPlates{Plates: make([]int, len(l))}
	plates := 0
	begun := byBeginning(l)
	for i, use := range begun {
		plate := freePlate(l, p.Plates, begun[:i], use)
		p.Plates[use] = plate
		if plate == plates {
			// All lesser plates are taken by uses that began no later and have not ended: just now there are as many uses as plates.
			plates++
			p.At = l[use].From
		}
	}
	return p, api.OK
}

// byBeginning returns the numbers of all uses, those that begin earlier first.
func byBeginning(l []api.DutyUse) []int {
	uses := make([]int, len(l))
	for i := range uses {
		uses[i] = i
	}
	slices.SortStableFunc(uses, func(i, j int) int { return cmp.Compare(l[i].From, l[j].From) })
	return uses
}

// freePlate returns the least plate that none of the uses with a plate has that overlap a use.
func freePlate(l []api.DutyUse, plates, uses []int, use int) int {
	var taken [api.MaxDutyUses]bool
	for _, other := range uses {
		if overlap(l[other], l[use]) {
			taken[plates[other]] = true
		}
	}
	return slices.Index(taken[:], false)
}

// CheckPlates returns how many plates there are, if they are plates of uses.
func CheckPlates(l []api.DutyUse, p api.DutyPlates) (int, api.Errno) {
	if e := check.First(errorOfUses(l), errorOfPlates(l, p)); e != api.OK {
		return 0, e
	}
	plates := 0
	for _, plate := range p.Plates {
		plates = max(plates, plate+1)
	}
	if usesAt(l, p.At) != plates {
		return 0, api.ErrProof
	}
	return plates, api.OK
}

// errorOfPlates returns the error of plates, but for what At proves.
func errorOfPlates(l []api.DutyUse, p api.DutyPlates) api.Errno {
	if len(p.Plates) != len(l) {
		return api.ErrShape
	}
	for _, plate := range p.Plates {
		if !check.Within(plate, 0, api.MaxDutyUses-1) {
			return api.ErrRange
		}
	}
	if !isTime(p.At) {
		return api.ErrRange
	}
	for i, use := range l {
		for j, earlier := range l[:i] {
			if p.Plates[i] == p.Plates[j] && overlap(use, earlier) {
				return api.ErrClash
			}
		}
	}
	return api.OK
}

// usesAt returns how many uses are at a time.
func usesAt(l []api.DutyUse, time int) int {
	uses := 0
	for _, x := range l {
		if check.Within(time, x.From, x.To-1) {
			uses++
		}
	}
	return uses
}

func errorOfUses(l []api.DutyUse) api.Errno {
	_, e := check.List(len(l), api.MaxDutyUses, func(i int) api.Errno {
		if e := errorOfSpan(l[i].Car, l[i].From, l[i].To); e != api.OK {
			return e
		}
		if slices.ContainsFunc(l[:i], func(x api.DutyUse) bool { return x.Car == l[i].Car && overlap(x, l[i]) }) {
			return api.ErrClash
		}
		return api.OK
	})
	return e
}

func overlap(x, y api.DutyUse) bool { return x.From < y.To && y.From < x.To }
