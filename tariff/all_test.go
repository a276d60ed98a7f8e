package tariff_test

import (
	"fmt"
	"math"
	"math/rand"
	"strings"
	"testing"

	"fiacre/api"
	"fiacre/tariff"
)

// odd returns a number that is likely to be at an end of something.
func odd(r *rand.Rand) int {
	ends := []int{math.MinInt, -1, 0, 1, 7, 400, 36000, 86399, 86400, 100000, 100001, 1000000, 999999999, 1000000000, math.MaxInt}
	return ends[r.Intn(len(ends))]
}

func odds(r *rand.Rand) []int {
	list := make([]int, r.Intn(4))
	for i := range list {
		list[i] = odd(r)
	}
	return list
}

// spoilt returns a right tariff in which a few things are changed to odd ones.
func spoilt(r *rand.Rand) api.Tariff {
	c := twoRules(r)
	for range r.Intn(3) {
		switch r.Intn(9) {
		case 0:
			c.Unit, c.Step = odd(r), odd(r)
		case 1:
			c.Zones = [][]string{nil, {""}, {"a", "\xff\n"}}[r.Intn(3)]
		case 2:
			c.Holidays = odds(r)
		case 3:
			c.Rules[0].Zones, c.Rules[1].Days = odds(r), odds(r)
		case 4:
			c.Rules[1].From, c.Rules[1].To = odd(r), odd(r)
		case 5:
			c.Rules[1].Begin, c.Rules[0].End = odd(r), odd(r)
		case 6:
			c.Rules[0].Start, c.Rules[0].Metre, c.Rules[0].Second = odd(r), odd(r), odd(r)
		case 7:
			c.Extras[0].Amount = odd(r)
		case 8:
			c.Fixed[0] = api.TariffFixed{From: odd(r), To: odd(r), Amount: odd(r)}
		}
	}
	return c
}

func spoiltTrip(r *rand.Rand) api.TariffTrip {
	x := api.TariffTrip{At: moment(odd(r), odd(r)), Fixed: r.Intn(2) == 0, Extras: odds(r)}
	for range r.Intn(70) {
		x.Segments = append(x.Segments, segment(odd(r)%2, odd(r), odd(r)))
	}
	return x
}

// TestNoPanic is of P1: with whatever arguments every function ends, and beside an error all other results are zero values.
func TestNoPanic(t *testing.T) {
	r := rand.New(rand.NewSource(1))
	for range 5000 {
		c, x, at := spoilt(r), spoiltTrip(r), place(odd(r)%3, odd(r), odd(r))
		dates := api.Range{Lo: odd(r), Hi: odd(r)}
		_, e := tariff.CheckTariff(c)
		zero(t, e)
		kind, e := tariff.KindOf(c, odd(r))
		zero(t, e, kind)
		later, e := tariff.Later(at.At, odd(r))
		zero(t, e, later)
		rule, e := tariff.RuleAt(c, at)
		zero(t, e, rule)
		gap, e := tariff.FirstGap(c, dates)
		zero(t, e, gap)
		over, two, e := tariff.FirstOverlap(c, dates)
		zero(t, e, over, two)
		next, e := tariff.NextChange(c, at)
		zero(t, e, next)
		_, e = tariff.CheckTrip(c, x)
		zero(t, e)
		rules, e := tariff.RulesOf(c, x)
		zero(t, e, rules)
		points, e := tariff.PointsOf(c, x)
		zero(t, e, points)
		steps, e := tariff.StepsOf(c, x)
		zero(t, e, steps)
		fare, e := tariff.FareOf(c, x)
		zero(t, e, fare)
		ends, e := tariff.FareRange(c, x)
		zero(t, e, ends)
		ends, e = tariff.Estimate(c, api.TariffQuestion{At: at, Metres: dates, Seconds: api.Range{Lo: odd(r), Hi: odd(r)}})
		zero(t, e, ends)
		cut, e := tariff.Cut(x, odd(r)%70, segment(odd(r)%2, odd(r), odd(r)))
		zero(t, e, cut)
		s, e := tariff.Print(c)
		zero(t, e, s)
		textsOf(t, r, tariff.FormatTrip(x)+tariff.FormatTariff(c)+s)
	}
}

// textsOf reads texts in which a few bytes are changed.
func textsOf(t *testing.T, r *rand.Rand, s string) {
	b := []byte(s)
	for range r.Intn(4) {
		b[r.Intn(len(b))] = "\n \t;,-09a\xff"[r.Intn(10)]
	}
	c, _, e := tariff.Parse(string(b))
	zero(t, e, c)
	c, e = tariff.ParseTariff(string(b))
	zero(t, e, c)
	x, e := tariff.ParseTrip(string(b))
	zero(t, e, x)
}

func zero(t *testing.T, e api.Errno, results ...any) {
	t.Helper()
	for _, x := range results {
		s := strings.NewReplacer("{", " ", "}", " ", "[", " ", "]", " ", "false", " ", "0", " ").Replace(fmt.Sprint(x))
		if e != api.OK && strings.TrimSpace(s) != "" {
			t.Errorf("beside the error %d: %v", e, x)
		}
	}
}

// TestMemory is of R3: arguments stay as they are, and results share no memory with them, or with each other.
func TestMemory(t *testing.T) {
	c, x := city(), ride(moment(0, 36000), segment(0, 1000, 100), segment(1, 100, 10))
	before := fmt.Sprint(c, x)
	tariff.FirstGap(c, api.Range{Hi: 9})
	tariff.NextChange(c, place(0, 0, 0))
	tariff.FareRange(c, x)
	tariff.Print(c)
	cut, _ := tariff.Cut(x, 0, segment(0, 1, 1))
	for i := range cut.Segments {
		cut.Segments[i].Zone = 9
	}
	cut.Extras[0] = 9
	for _, list := range [][]int{first(tariff.RulesOf(c, x)), first(tariff.PointsOf(c, x)), first(tariff.StepsOf(c, x))} {
		list[0] = 9
	}
	if after := fmt.Sprint(c, x); after != before {
		t.Errorf("an argument was changed from %s to %s", before, after)
	}
	one, _, _ := tariff.Parse(cityText)
	for i := range one.Rules {
		one.Rules[i].Zones = append(one.Rules[i].Zones[:1], 9)
		one.Rules[i].Days = append(one.Rules[i].Days, 9)
	}
	two, _, _ := tariff.Parse(cityText)
	want(t, "Parse once more", two, api.OK, city(), api.OK)
	want(t, "the other rule", one.Rules[0].Days, api.OK, append(days(), 9), api.OK)
}

func first(list []int, _ api.Errno) []int { return list }
