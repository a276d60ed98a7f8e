package duty_test

import (
	"fmt"
	"math"
	"math/rand"
	"slices"
	"testing"

	"fiacre/api"
	"fiacre/duty"
)

// three is the uses of the document's examples.
func three() []api.DutyUse {
	return []api.DutyUse{{Car: "a", From: 0, To: 10}, {Car: "b", From: 5, To: 15}, {Car: "c", From: 10, To: 20}}
}

func platesAt(at int, plates ...int) api.DutyPlates { return api.DutyPlates{Plates: plates, At: at} }

// anyUses returns at most so many random right uses within so many seconds.
func anyUses(r *rand.Rand, most, span int) []api.DutyUse {
	var l []api.DutyUse
	for range r.Intn(most + 1) {
		from := r.Intn(span)
		x := api.DutyUse{Car: fmt.Sprint("c", r.Intn(20)), From: from, To: from + 1 + r.Intn(span-from)}
		if !slices.ContainsFunc(l, func(y api.DutyUse) bool { return y.Car == x.Car && slowOverlap(x, y) }) {
			l = append(l, x)
		}
	}
	return l
}

// slowOverlap is the definition of uses that overlap: there is a time at which both are.
func slowOverlap(x, y api.DutyUse) bool {
	for time := x.From; time < x.To; time++ {
		if slowIs(y, time) {
			return true
		}
	}
	return false
}

func slowIs(x api.DutyUse, time int) bool { return x.From <= time && time < x.To }

// slowMost is how many uses are at once at most, time by time.
func slowMost(l []api.DutyUse, span int) int {
	most := 0
	for time := range span {
		most = max(most, slowUses(l, time))
	}
	return most
}

func slowUses(l []api.DutyUse, time int) int {
	uses := 0
	for _, x := range l {
		if slowIs(x, time) {
			uses++
		}
	}
	return uses
}

// TestPlates is of P7.7: as many plates as are needed at once.
func TestPlates(t *testing.T) {
	for _, x := range []struct {
		what   string
		l      []api.DutyUse
		wanted int
	}{
		{"the uses of the examples", three(), 2},
		{"none", nil, 0},
		{"one", three()[:1], 1},
		{"one behind the other", []api.DutyUse{{Car: "a", From: 10, To: 20}, {Car: "b", From: 0, To: 10}}, 1},
		{"a car again", []api.DutyUse{{Car: "a", From: 10, To: 20}, {Car: "a", From: 0, To: 10}}, 1},
		{"at once by a second", []api.DutyUse{{Car: "a", From: 9, To: 20}, {Car: "b", From: 0, To: 10}}, 2},
		{"a Car and a car", []api.DutyUse{{Car: "A", From: 0, To: 10}, {Car: "a", From: 0, To: 10}}, 2},
		{"one over all", []api.DutyUse{{Car: "a", From: 0, To: 1}, {Car: "b", From: 0, To: 8640000000}, {Car: "c", From: 2, To: 3}, {Car: "d", From: 8639999999, To: 8640000000}}, 2},
		{"one in the middle", []api.DutyUse{{Car: "a", From: 0, To: 4}, {Car: "b", From: 6, To: 9}, {Car: "c", From: 3, To: 7}}, 2},
		{"14 at once", crowd(14, 0), 14},
		{"14 one behind the other", crowd(14, 1), 1},
	} {
		p, e := duty.Plates(x.l)
		if e != api.OK || len(p.Plates) != len(x.l) {
			t.Errorf("%s: %v, error %d", x.what, p, e)
		}
		gives(t, x.what, x.wanted)(duty.CheckPlates(x.l, p))
	}
	gives(t, "none", platesAt(0))(duty.Plates(nil))
}

// crowd returns so many uses of a second, each later by so much than the one before.
func crowd(many, later int) []api.DutyUse {
	var l []api.DutyUse
	for i := range many {
		l = append(l, api.DutyUse{Car: fmt.Sprint("c", i), From: i * later, To: i*later + 1})
	}
	return l
}

// TestFewestPlates is of P7.7 and P7.13: there are never more plates than uses at once, in whichever order the uses are told.
func TestFewestPlates(t *testing.T) {
	r := rand.New(rand.NewSource(81))
	for range 3000 {
		span := []int{3, 8, 30}[r.Intn(3)]
		l := anyUses(r, 14, span)
		wanted := slowMost(l, span)
		for range 3 {
			what := fmt.Sprint("Plates of ", l)
			p, e := duty.Plates(l)
			if e != api.OK {
				t.Fatalf("%s: error %d", what, e)
			}
			gives(t, what, wanted)(duty.CheckPlates(l, p))
			checkPlates(t, l, p)
			r.Shuffle(len(l), func(i, j int) { l[i], l[j] = l[j], l[i] })
		}
	}
}

// checkPlates wants that CheckPlates accepts plates if they are some by the definition, and refuses them otherwise.
func checkPlates(t *testing.T, l []api.DutyUse, p api.DutyPlates) {
	t.Helper()
	what := fmt.Sprint("CheckPlates of ", l, p)
	many := 0
	for i, plate := range p.Plates {
		many = max(many, plate+1)
		for j := range i {
			if p.Plates[j] == plate && slowOverlap(l[i], l[j]) {
				fails(t, what, api.ErrClash)(duty.CheckPlates(l, p))
				return
			}
		}
	}
	if slowUses(l, p.At) == many {
		gives(t, what, many)(duty.CheckPlates(l, p))
	} else {
		fails(t, what, api.ErrProof)(duty.CheckPlates(l, p))
	}
}

// TestAnyPlates is of P7.7 and P7.13: of all plates just those are accepted that are some by the definition, and all of these are as many.
func TestAnyPlates(t *testing.T) {
	r := rand.New(rand.NewSource(82))
	accepted := 0
	for range 20000 {
		span := 2 + r.Intn(9)
		l := anyUses(r, 5, span)
		p := platesAt(r.Intn(span))
		for range l {
			p.Plates = append(p.Plates, r.Intn(3))
		}
		checkPlates(t, l, p)
		if many, e := duty.CheckPlates(l, p); e == api.OK {
			accepted++
			gives(t, fmt.Sprint("the plates of ", l), slowMost(l, span))(many, e)
		}
	}
	if accepted < 2000 {
		t.Errorf("too few plates are accepted: %d", accepted)
	}
}

// TestCheckPlates is of P7.7: each error of plates, and which one comes ahead of which.
func TestCheckPlates(t *testing.T) {
	gives(t, "the plates of the example", 2)(duty.CheckPlates(three(), platesAt(5, 0, 1, 0)))
	gives(t, "the same at another time", 2)(duty.CheckPlates(three(), platesAt(14, 0, 1, 0)))
	gives(t, "the same the other way round", 2)(duty.CheckPlates(three(), platesAt(9, 1, 0, 1)))
	gives(t, "no plates", 0)(duty.CheckPlates(nil, platesAt(0)))
	gives(t, "no plates at any time", 0)(duty.CheckPlates(nil, platesAt(8640000000)))
	apart := []api.DutyUse{{Car: "a", From: 0, To: 10}, {Car: "b", From: 10, To: 20}}
	gives(t, "a plate", 1)(duty.CheckPlates(apart, platesAt(10, 0, 0)))
	for _, x := range []struct {
		what string
		p    api.DutyPlates
		e    api.Errno
	}{
		{"ahead of the time with two", platesAt(4, 0, 1, 0), api.ErrProof},
		{"behind the time with two", platesAt(15, 0, 1, 0), api.ErrProof},
		{"at no use", platesAt(20, 0, 1, 0), api.ErrProof},
		{"a plate too many", platesAt(5, 0, 1, 2), api.ErrProof},
		{"a gap between plates", platesAt(5, 0, 2, 0), api.ErrProof},
		{"no plate 0", platesAt(5, 1, 2, 1), api.ErrProof},
		{"the greatest plate", platesAt(5, 13, 1, 13), api.ErrProof},
		{"too few plates for two", platesAt(5, 0, 0, 1), api.ErrClash},
		{"too few plates for two others", platesAt(5, 1, 0, 0), api.ErrClash},
		{"a clash at a time that proves nothing", platesAt(20, 7, 7, 7), api.ErrClash},
		{"below 0", platesAt(5, 0, -1, 0), api.ErrRange},
		{"too great", platesAt(5, 0, 1, 14), api.ErrRange},
		{"out of range ahead of a clash", platesAt(5, 1, 1, math.MaxInt), api.ErrRange},
		{"at no time", platesAt(-1, 0, 1, 0), api.ErrRange},
		{"at no time ahead of a clash", platesAt(8640000001, 0, 0, 0), api.ErrRange},
		{"too few", platesAt(5, 0, 1), api.ErrShape},
		{"too many", platesAt(5, 0, 1, 0, 2), api.ErrShape},
		{"none", platesAt(5), api.ErrShape},
		{"too few ahead of their range", platesAt(-1, 0, -1), api.ErrShape},
	} {
		fails(t, x.what, x.e)(duty.CheckPlates(three(), x.p))
	}
	fails(t, "plates without uses", api.ErrShape)(duty.CheckPlates(nil, platesAt(0, 0)))
	fails(t, "no plates at no time", api.ErrRange)(duty.CheckPlates(nil, platesAt(-1)))
}

// TestUsesErrors is of P7.7: each error of uses, ahead of all errors of plates.
func TestUsesErrors(t *testing.T) {
	for _, x := range []struct {
		what   string
		change func(l []api.DutyUse) []api.DutyUse
		e      api.Errno
	}{
		{"too many", func(l []api.DutyUse) []api.DutyUse { return crowd(15, 1) }, api.ErrLarge},
		{"too many ahead of their names", func(l []api.DutyUse) []api.DutyUse { return make([]api.DutyUse, 15) }, api.ErrLarge},
		{"no name", func(l []api.DutyUse) []api.DutyUse { l[2].Car = ""; return l }, api.ErrName},
		{"a long name", func(l []api.DutyUse) []api.DutyUse { l[0].Car = "abcdefghijklm"; return l }, api.ErrName},
		{"a beginning below 0", func(l []api.DutyUse) []api.DutyUse { l[0].From = -1; return l }, api.ErrRange},
		{"an end behind all time", func(l []api.DutyUse) []api.DutyUse { l[2].To = 8640000001; return l }, api.ErrRange},
		{"no time at all", func(l []api.DutyUse) []api.DutyUse { l[1].To = 5; return l }, api.ErrOrder},
		{"an end ahead of the beginning", func(l []api.DutyUse) []api.DutyUse { l[1].To = 4; return l }, api.ErrOrder},
		{"a car twice at once", func(l []api.DutyUse) []api.DutyUse { l[1].Car = "a"; return l }, api.ErrClash},
		{"a car twice at once, later", func(l []api.DutyUse) []api.DutyUse { l[2].Car, l[2].From = "a", 9; return l }, api.ErrClash},
		{"the same twice", func(l []api.DutyUse) []api.DutyUse { return append(l, l[0]) }, api.ErrClash},
		{"names ahead of times", func(l []api.DutyUse) []api.DutyUse { l[1] = api.DutyUse{From: -1, To: -2}; return l }, api.ErrName},
		{"times ahead of their order", func(l []api.DutyUse) []api.DutyUse { l[1].From, l[1].To = 5, -2; return l }, api.ErrRange},
		{"the order ahead of a car twice at once", func(l []api.DutyUse) []api.DutyUse {
			l[1] = api.DutyUse{Car: "a", From: 6, To: 5}
			return l
		}, api.ErrOrder},
		{"one by one", func(l []api.DutyUse) []api.DutyUse { l[1].Car, l[2].Car = "a", ""; return l }, api.ErrClash},
	} {
		l := x.change(three())
		fails(t, "Plates: "+x.what, x.e)(duty.Plates(l))
		fails(t, "CheckPlates: "+x.what, x.e)(duty.CheckPlates(l, platesAt(-1, -1)))
	}
}
