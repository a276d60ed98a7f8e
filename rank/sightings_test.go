package rank_test

import (
	"fmt"
	"math/rand"
	"slices"
	"strings"
	"testing"

	"fiacre/api"
	"fiacre/rank"
)

// TestOvertaken is of P4.5, and of the example 6.
func TestOvertaken(t *testing.T) {
	for _, x := range []struct {
		l      string
		triple [3]int
	}{
		{"arrive 0 a; arrive 0 b; serve 0 b", [3]int{0, 1, 2}},
		{"arrive 0 a; arrive 0 b; decline 1 a; serve 0 b", [3]int{0, 1, 3}},
		{"arrive 0 a; arrive 1 a; arrive 0 b; serve 1 b; serve 0 b; serve 1 a", [3]int{0, 2, 4}},
		{"arrive 5 a; arrive 5 b; arrive 5 c; arrive 5 d; serve 5 d; serve 5 b", [3]int{0, 3, 4}},
		{"arrive 5 a; decline 5 a; arrive 5 b; arrive 5 c; arrive 5 d; serve 5 d; serve 5 c", [3]int{2, 4, 5}},
		{"arrive 0 a; leave 0 a; arrive 0 a; arrive 0 b; serve 0 b", [3]int{2, 3, 4}},
		{"arrive 0 a; arrive 0 b; leave 0 b; arrive 0 b; serve 0 b", [3]int{0, 3, 4}},
		{"arrive 0 a; arrive 0 b; arrive 0 b; serve 0 b", [3]int{0, 2, 3}},
		{"arrive 0 a; arrive 0 b; arrive 0 c; serve 0 c; serve 0 b", [3]int{0, 2, 3}},
		{"arrive 0 a; arrive 1 a; arrive 0 b; arrive 1 b; serve 1 b; serve 0 b", [3]int{1, 3, 4}},
		{"arrive 0 a; arrive 0 b; serve 0 b; serve 0 a", [3]int{0, 1, 2}},
		{"arrive 0 a; arrive 0 b; serve 1 b; arrive 0 c; serve 0 b", [3]int{0, 1, 4}},
	} {
		gives(t, "Overtaken in "+x.l, x.triple)(rank.Overtaken(sightings(x.l)))
	}
	for _, l := range []string{
		"arrive 0 a",
		"serve 0 a",
		"arrive 0 a; serve 0 a",
		"arrive 0 a; arrive 0 b; serve 0 a; serve 0 b",
		"arrive 0 a; arrive 0 b; decline 0 a; serve 0 b",
		"arrive 0 a; arrive 0 b; leave 0 a; serve 0 b",
		"arrive 0 a; arrive 0 b; arrive 0 a; serve 0 b",
		"arrive 0 a; decline 0 a; arrive 0 b; serve 0 b",
		"arrive 0 a; arrive 0 b; decline 0 b; serve 0 b",
		"arrive 0 a; arrive 1 b; serve 1 b",
		"arrive 0 a; arrive 0 b; serve 1 b",
		"arrive 0 a; serve 0 b",
		"arrive 0 a; arrive 0 a; serve 0 a",
		"decline 0 a; arrive 0 b; serve 0 b",
		"arrive 0 b; serve 0 b; arrive 0 a",
		"arrive 0 a; arrive 0 b; leave 0 b; decline 0 b",
		"arrive 0 A; arrive 0 a; serve 0 A",
	} {
		fails(t, "Overtaken in "+l, api.ErrNone)(rank.Overtaken(sightings(l)))
	}
	fails(t, "Overtaken in nothing", api.ErrNone)(rank.Overtaken(nil))
}

// TestOvertakenErrors is of P4.5.
func TestOvertakenErrors(t *testing.T) {
	right := sightings("arrive 0 a; arrive 0 b; serve 0 b")
	for _, x := range []struct {
		x api.RankSighting
		e api.Errno
	}{
		{api.RankSighting{Kind: -1, Rank: -1}, api.ErrKind},
		{api.RankSighting{Kind: api.RankCall, Rank: 6}, api.ErrKind},
		{api.RankSighting{Kind: api.RankReturn, Car: "a"}, api.ErrKind},
		{api.RankSighting{Kind: api.RankKinds, Car: "a"}, api.ErrKind},
		{api.RankSighting{Kind: api.RankServe, Rank: -1}, api.ErrRange},
		{api.RankSighting{Kind: api.RankServe, Rank: 6, Car: "a"}, api.ErrRange},
		{api.RankSighting{Kind: api.RankServe, Rank: 5}, api.ErrName},
		{api.RankSighting{Kind: api.RankLeave, Rank: 0, Car: "7"}, api.ErrName},
	} {
		for i := range 4 {
			fails(t, fmt.Sprint("Overtaken with ", x.x, " at ", i), x.e)(rank.Overtaken(slices.Insert(slices.Clone(right), i, x.x)))
		}
	}
	two := []api.RankSighting{{Kind: 1, Rank: 0, Car: ""}, {Kind: 9}}
	fails(t, "Overtaken with two errors", api.ErrName)(rank.Overtaken(two))
	l := slices.Repeat(sightings("decline 0 a"), 197)
	gives(t, "Overtaken in 200", [3]int{197, 198, 199})(rank.Overtaken(slices.Concat(l, right)))
	fails(t, "Overtaken in 201", api.ErrLarge)(rank.Overtaken(slices.Concat(l, right, two[1:])))
}

// TestAnySightings is of P4.5: the first triple, compared with a look at all triples.
func TestAnySightings(t *testing.T) {
	r, found := rand.New(rand.NewSource(5)), 0
	for range 3000 {
		var l []api.RankSighting
		for range r.Intn(14) {
			l = append(l, api.RankSighting{Kind: []int{0, 0, 0, 1, 1, 2, 3}[r.Intn(7)], Rank: r.Intn(5) / 3, Car: string(rune('a' + r.Intn(4)))})
		}
		triple, e := slowOvertaken(l)
		if e == api.OK {
			found++
			gives(t, fmt.Sprint("Overtaken in ", l), triple)(rank.Overtaken(l))
		} else {
			fails(t, fmt.Sprint("Overtaken in ", l), e)(rank.Overtaken(l))
		}
	}
	if found < 100 || found > 2900 {
		t.Errorf("overtaken in %d lists", found)
	}
}

func slowOvertaken(l []api.RankSighting) ([3]int, api.Errno) {
	between := func(i, k int) bool {
		return slices.ContainsFunc(l[i+1:k], func(x api.RankSighting) bool { return x.Car == l[i].Car && x.Rank == l[i].Rank })
	}
	for k, z := range l {
		for i, x := range l[:k] {
			for j := i + 1; j < k; j++ {
				y := l[j]
				come := x.Kind == api.RankArrive && y.Kind == api.RankArrive && x.Rank == y.Rank && x.Car != y.Car
				if come && z.Kind == api.RankServe && z.Rank == y.Rank && z.Car == y.Car && !between(i, k) && !between(j, k) {
					return [3]int{i, j, k}, api.OK
				}
			}
		}
	}
	return [3]int{}, api.ErrNone
}

// TestSightingsOf is of P4.5, and of the example 7.
func TestSightingsOf(t *testing.T) {
	gives(t, "SightingsOf nothing", "[]")(rank.SightingsOf(stand(), nil))
	gives(t, "SightingsOf example 7", sightings("arrive 0 a; arrive 0 b; arrive 1 c; serve 0 a; leave 1 c; arrive 0 c"))(
		rank.SightingsOf(stand(), events("arrive 0 0 a; arrive 5 0 b; arrive 9 1 c; serve 20 0 a")))
	for _, x := range []struct{ l, seen string }{
		{"arrive 1 1 a; decline 2 0 a; serve 3 0 a; return 4 0 a; leave 5 0 a", "arrive 1 a; leave 1 a; arrive 0 a; decline 0 a; serve 0 a; arrive 0 a; leave 0 a"},
		{"arrive 1 0 a; leave 2 0 a; arrive 2 0 a; arrive 3 0 b; arrive 3 1 c; arrive 3 1 d; leave 3 0 a", "arrive 0 a; leave 0 a; arrive 0 a; arrive 0 b; arrive 1 c; arrive 1 d; leave 0 a; leave 1 c; arrive 0 c"},
	} {
		gives(t, "SightingsOf "+x.l, sightings(x.seen))(rank.SightingsOf(stand(), events(x.l)))
	}
	gives(t, "SightingsOf calls", sightings("arrive 4 a; arrive 4 b; leave 4 a; arrive 3 a; leave 3 a; arrive 2 a; leave 2 a; arrive 0 a; arrive 1 x; leave 4 b; arrive 3 b; leave 3 b; arrive 2 b; leave 2 b; arrive 0 b"))(
		rank.SightingsOf(airport(), events("arrive 1 4 a; arrive 1 4 b; call 1 3 -; arrive 1 1 x; call 2 3 -")))
	seven := "arrive 1 2 a; arrive 1 2 b; arrive 1 2 c; arrive 1 2 d; arrive 1 3 e; arrive 1 3 f; arrive 1 3 g; serve 2 0 a"
	gives(t, "SightingsOf cars that move up one behind the other", sightings("arrive 2 a; leave 2 a; arrive 0 a; arrive 2 b; leave 2 b; arrive 0 b; arrive 2 c; arrive 2 d; arrive 3 e; arrive 3 f; arrive 3 g; serve 0 a; leave 2 c; arrive 0 c; leave 3 e; arrive 2 e"))(
		rank.SightingsOf(airport(), events(seven)))
}

// TestManySightings is of P4.5: as many sightings as there may be, and one more.
func TestManySightings(t *testing.T) {
	pair := "; arrive 1 1 a; leave 1 0 a"
	l := "arrive 1 0 b; leave 1 0 b" + strings.Repeat(pair, 49)
	seen, e := rank.SightingsOf(stand(), events(l+"; arrive 1 0 x; leave 1 0 x"))
	gives(t, "as many sightings as there may be", 200)(len(seen), e)
	fails(t, "one sighting more", api.ErrLarge)(rank.SightingsOf(stand(), events(l+"; arrive 1 0 x; leave 1 0 x; arrive 1 0 x")))
	fails(t, "the error of the log comes first", api.ErrFull)(rank.SightingsOf(stand(), events(l+"; arrive 1 0 x; arrive 1 0 y; arrive 1 0 z")))
}

// TestAnySightingsOf is of P4.5 and P4.7: what is seen, compared with the definition, and nobody is overtaken unless a car returned.
func TestAnySightingsOf(t *testing.T) {
	r := rand.New(rand.NewSource(6))
	taken, overtaken := 0, 0
	for range 1000 {
		rules := anyRules(r)
		l := anyLog(r, rules, 60, allKinds...)
		s := slowBegin(rules)
		var wanted []api.RankSighting
		returned := false
		for _, x := range l {
			next, seen, _ := slowSteps(rules, s, x)
			s, wanted = next, append(wanted, seen...)
			returned = returned || x.Kind == api.RankReturn
			if x.Kind == api.RankServe {
				taken++
			}
		}
		gives(t, fmt.Sprint("SightingsOf ", rules, l), wanted)(rank.SightingsOf(rules, l))
		triple, e := rank.Overtaken(wanted)
		switch {
		case e != api.OK:
		case returned:
			overtaken++
		default:
			t.Errorf("in %v by %v one is overtaken: %v", l, rules, triple)
		}
	}
	if taken < 1000 || overtaken == 0 {
		t.Errorf("only %d cars were taken; %d cars that returned were overtaken", taken, overtaken)
	}
}
