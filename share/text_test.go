package share_test

import (
	"fmt"
	"math"
	"math/rand"
	"testing"

	"fiacre/api"
	"fiacre/share"
)

// TestFormatStops is of P6.7: the text of stops, whatever they are.
func TestFormatStops(t *testing.T) {
	for _, x := range []struct {
		wanted string
		change func(p plan)
	}{
		{"+ann +bob -bob -ann", func(p plan) {}},
		{"", func(p plan) { p.Stops = nil }},
		{"", func(p plan) { p.Riders = nil }},
		{"+ann -ann", func(p plan) { p.Riders = p.Riders[:1] }},
		{"-ann", func(p plan) { p.Stops = p.Stops[3:] }},
		{"+bob -ann", func(p plan) { p.Stops[0].Rider, p.Stops[2].Rider = -1, 2 }},
		{"-bob -ann", func(p plan) { p.Stops[0].Rider, p.Stops[1].Rider = math.MinInt, math.MaxInt }},
		{"-bob -bob -bob -ann", func(p plan) { p.Stops[0], p.Stops[1] = p.Stops[2], p.Stops[2] }},
		{"+ann + - -ann", func(p plan) { p.Riders[1].Name = "" }},
		{"+ann +b o - -b o - -ann", func(p plan) { p.Riders[1].Name = "b o -" }},
	} {
		gives(t, "FormatStops", x.wanted)(share.FormatStops(with(x.change)), api.OK)
	}
}

// TestParseStops is of P6.7: stops with a text, which need not be those of a right plan.
func TestParseStops(t *testing.T) {
	for s, wanted := range map[string]string{
		"":                    "[]",
		"+ann +bob -bob -ann": "[{0 false} {1 false} {1 true} {0 true}]",
		"-bob":                "[{1 true}]",
		"+bob +bob +bob":      "[{1 false} {1 false} {1 false}]",
		"-ann +ann":           "[{0 true} {0 false}]",
	} {
		gives(t, fmt.Sprintf("ParseStops %q", s), wanted)(share.ParseStops(both().Riders, s))
	}
	gives(t, "ParseStops of nobody", "[]")(share.ParseStops(nil, ""))
	odd := []api.ShareRider{{Name: "a--", From: -1, To: -1, Seats: 99, Ridden: -7}, {Name: "A--"}}
	gives(t, "ParseStops of riders who have but names", "[{1 true} {0 false}]")(share.ParseStops(odd, "-A-- +a--"))
}

// TestParseStopsErrors is of P6.7: the errors of riders and texts, and which comes first.
func TestParseStopsErrors(t *testing.T) {
	for _, s := range []string{" ", "+", "-", "+ann ", " +ann", "+ann  -ann", "ann", "+ann bob", "+ann +", "- ann", "=ann", "*ann", "\n", "+bert ann", "\xff+ann", "0ann", "+ann\t -", ",ann", "~ann"} {
		fails(t, fmt.Sprintf("ParseStops %q", s), api.ErrSyntax)(share.ParseStops(both().Riders, s))
	}
	for _, s := range []string{"+bert", "+ann -bo", "+Ann", "++ann", "+-", "-+", "--", "+ann\n", "+ann,-ann", "+ann\t-ann", "+\xff", "+0"} {
		fails(t, fmt.Sprintf("ParseStops %q", s), api.ErrMissing)(share.ParseStops(both().Riders, s))
	}
	fails(t, "ParseStops of nobody", api.ErrMissing)(share.ParseStops(nil, "+ann"))
	for _, x := range []struct {
		names []string
		e     api.Errno
	}{
		{[]string{"a", "b", "c", "d", "e", "f", "g"}, api.ErrLarge},
		{make([]string, 7), api.ErrLarge},
		{[]string{"a", ""}, api.ErrName},
		{[]string{"a", "b c"}, api.ErrName},
		{[]string{"abcdefghijklm"}, api.ErrName},
		{[]string{"a", "a"}, api.ErrExists},
		{[]string{"a", "a", ""}, api.ErrExists},
		{[]string{"", "a", "a"}, api.ErrName},
	} {
		var riders []api.ShareRider
		for _, name := range x.names {
			riders = append(riders, api.ShareRider{Name: name})
		}
		for _, s := range []string{"", "+", "+x", "+a"} {
			fails(t, fmt.Sprintf("ParseStops of %q", x.names), x.e)(share.ParseStops(riders, s))
		}
	}
	gives(t, "six riders", "[{5 false}]")(share.ParseStops(crowd(6).Riders, "+r5"))
}

// TestStopsText is of P6.12: ParseStops undoes FormatStops.
func TestStopsText(t *testing.T) {
	r := rand.New(rand.NewSource(75))
	for range 1000 {
		p := anyPlan(r, anyMap(r, 12, 10), 6, 10)
		s := share.FormatStops(p)
		gives(t, fmt.Sprintf("ParseStops %q", s), p.Stops)(share.ParseStops(p.Riders, s))
	}
}
