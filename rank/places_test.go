package rank_test

import (
	"fmt"
	"math"
	"math/rand"
	"slices"
	"testing"

	"fiacre/api"
	"fiacre/rank"
)

const full = "5|a b|x|c d|e f|g h i|t:0:5"

// TestNext is of P4.3.
func TestNext(t *testing.T) {
	for i, car := range []string{"a", "x", "c", "e", "g"} {
		gives(t, fmt.Sprint("Next of ", i), car)(rank.Next(airport(), state(full), i))
	}
	gives(t, "Next of example 3", "c")(rank.Next(stand(), state("30|c b||a:0:20"), 0))
	fails(t, "Next of an empty rank", api.ErrNone)(rank.Next(stand(), state("30|c b||a:0:20"), 1))
	for _, i := range []int{-1, 2, math.MinInt, math.MaxInt} {
		fails(t, fmt.Sprint("Next of ", i), api.ErrMissing)(rank.Next(stand(), state("30|c b||a:0:20"), i))
	}
}

// TestPlaceOf is of P4.3.
func TestPlaceOf(t *testing.T) {
	for car, wanted := range map[string]api.RankSpot{
		"a": {}, "b": {Place: 1}, "x": {Rank: 1}, "d": {Rank: 2, Place: 1}, "i": {Rank: 4, Place: 2},
	} {
		gives(t, "PlaceOf "+car, wanted)(rank.PlaceOf(airport(), state(full), car))
	}
	for car, wanted := range map[string]api.Errno{"t": api.ErrMissing, "z": api.ErrMissing, "": api.ErrName, "7": api.ErrName, "A": api.ErrMissing, "a ": api.ErrName} {
		fails(t, "PlaceOf "+car, wanted)(rank.PlaceOf(airport(), state(full), car))
		fails(t, "Ahead of "+car, wanted)(rank.Ahead(airport(), state(full), car))
	}
}

// TestAhead is of P4.3.
func TestAhead(t *testing.T) {
	for car, wanted := range map[string]string{
		"a": "[]", "b": "[a]", "x": "[]", "c": "[a b]", "d": "[c a b]", "e": "[c d a b]", "f": "[e c d a b]", "g": "[e f c d a b]", "i": "[g h e f c d a b]",
	} {
		gives(t, "Ahead of "+car, wanted)(rank.Ahead(airport(), state(full), car))
	}
	gives(t, "Ahead in example 3", "[c]")(rank.Ahead(stand(), state("30|c b||a:0:20"), "b"))
	gives(t, "Ahead over an empty rank", "[g]")(rank.Ahead(airport(), state("5||x|||g h|"), "h"))
}

// TestAheadOfFirst is of P4.10: nobody is ahead of the first car of a rank that feeds none, and somebody is ahead of all others that are not alone.
func TestAheadOfFirst(t *testing.T) {
	r := rand.New(rand.NewSource(2))
	for range 500 {
		rules := anyRules(r)
		s := first(replayed(rules, anyLog(r, rules, 60, allKinds...)))
		for i, queue := range s.Queues {
			feeds := slices.ContainsFunc(rules.Ranks, func(p api.RankPlace) bool { return p.Feeder == i })
			for j, car := range queue {
				ahead, e := rank.Ahead(rules, s, car)
				if e != api.OK || j == 0 && !feeds && len(ahead) > 0 || len(ahead) < j {
					t.Errorf("%v, %v: ahead of %s are %v, error %d", rules, s, car, ahead, e)
				}
				gives(t, fmt.Sprint("PlaceOf ", car, " in ", s), api.RankSpot{Rank: i, Place: j})(rank.PlaceOf(rules, s, car))
			}
		}
	}
}
