package rank_test

import (
	"fmt"
	"math"
	"math/rand"
	"strings"
	"testing"

	"fiacre/api"
	"fiacre/rank"
)

// TestFormatEvent is of P4.6, and of the example 8.
func TestFormatEvent(t *testing.T) {
	for _, x := range []struct {
		x      api.RankEvent
		wanted string
	}{
		{event("serve 20 0 a"), "serve 20 0 a"},
		{event("call 20 0 -"), "call 20 0 -"},
		{event("arrive 0 5 abcdefghijkl"), "arrive 0 5 abcdefghijkl"},
		{event("decline 604800 1 a"), "decline 604800 1 a"},
		{event("leave 1 2 a-7"), "leave 1 2 a-7"},
		{event("return 1 2 A"), "return 1 2 A"},
		{event("serve 20 0 -"), "serve 20 0 -"},
		{event("arrive -20 -7 7"), "arrive -20 -7 7"},
		{event("call 20 0 a"), "call 20 0 -"},
		{api.RankEvent{Kind: api.RankLeave, Car: "a b"}, "leave 0 0 a b"},
		{api.RankEvent{At: math.MinInt, Rank: math.MaxInt, Car: "a"}, fmt.Sprint("arrive ", math.MinInt, " ", math.MaxInt, " a")},
		{api.RankEvent{Kind: -1, Car: "a"}, ""},
		{api.RankEvent{Kind: api.RankKinds, Car: "a"}, ""},
		{api.RankEvent{Kind: math.MaxInt, Car: "a"}, ""},
	} {
		gives(t, fmt.Sprint("FormatEvent of ", x.x), x.wanted)(rank.FormatEvent(x.x), api.OK)
	}
}

// TestParseEvent is of P4.6.
func TestParseEvent(t *testing.T) {
	for _, s := range []string{"arrive 0 0 a", "serve 20 0 a", "decline 999999999 999999999 a-", "leave -5 -999999999 abcdefghijkl", "call 20 0 -", "return 1 1 Z"} {
		gives(t, "ParseEvent of "+s, event(s))(rank.ParseEvent(s))
	}
	for _, s := range []string{
		"", " ", "serve", "serve 20 0", "serve 20 0 ", "serve 20 0 a ", " serve 20 0 a", "serve  20 0 a", "serve 20  0 a", "serve 20 0  a", "serve 20 0 a b",
		"serve\t20 0 a", "serve 20 0 a b c", "   ", "Serve 20 0 a", "served 20 0 a", "serv 20 0 a", "0 20 0 a", " 20 0 a", "serve x 0 a", "serve 20 x a",
		"serve 020 0 a", "serve +20 0 a", "serve -0 0 a", "serve 20 00 a", "serve 1000000000 0 a", "serve 0 1000000000 a", "serve 0 -1000000000 a", "serve 1e3 0 a",
		"serve - 0 7", "call x 0 a", "call 20 - a", "serve 20 0\n a", "none 1 1 -",
	} {
		fails(t, "ParseEvent of "+s, api.ErrSyntax)(rank.ParseEvent(s))
	}
	for _, s := range []string{"call 20 0 a", "call 20 0 7", "call 20 0 --", "call 20 0 -\n", "call 20 0 call"} {
		fails(t, "ParseEvent of "+s, api.ErrForm)(rank.ParseEvent(s))
	}
	for _, s := range []string{"serve 20 0 -", "arrive 20 0 7", "decline 20 0 a_b", "leave 20 0 abcdefghijklm", "return 20 0 -a", "arrive 0 0 a\n", "arrive 0 0 a\tb"} {
		fails(t, "ParseEvent of "+s, api.ErrName)(rank.ParseEvent(s))
	}
}

// TestFormatState is of P4.6, and of the example 8.
func TestFormatState(t *testing.T) {
	for _, s := range []string{"20|b c||a:0:20", "0||", "0|a|", "7|a b c|d|e f||g:1:2 h:-3:4", "-7||||x:9:99"} {
		gives(t, "FormatState of "+s, s)(rank.FormatState(state(s)), api.OK)
	}
	for _, x := range []struct {
		s      api.RankState
		wanted string
	}{
		{api.RankState{}, "0|"},
		{api.RankState{At: math.MinInt, Taken: []api.RankTaken{{}}}, fmt.Sprint(math.MinInt, "|:0:0")},
		{api.RankState{At: math.MaxInt, Queues: [][]string{{}, nil, {"", ""}, {"a b", ":|"}}}, fmt.Sprint(math.MaxInt, "||| |a b :||")},
	} {
		gives(t, fmt.Sprint("FormatState of ", x.s), x.wanted)(rank.FormatState(x.s), api.OK)
	}
}

// TestParseState is of P4.6.
func TestParseState(t *testing.T) {
	for _, s := range []string{
		"0||", "20|b c||a:0:20", "0|||||||||", "-999999999|a a a|a:-1:-999999999", "999999999|7|7:999999999:0 -:0:0", "5|é \n - a\tb|é:0:0", "5||" + strings.Repeat("x:1:1 ", 60) + "x:1:1",
	} {
		wanted := state(strings.ReplaceAll(strings.ReplaceAll(s, "\n", "@"), "\t", "#"))
		for _, queue := range wanted.Queues {
			for i, car := range queue {
				queue[i] = strings.ReplaceAll(strings.ReplaceAll(car, "@", "\n"), "#", "\t")
			}
		}
		gives(t, fmt.Sprintf("ParseState of %q", s), wanted)(rank.ParseState(s))
	}
	for _, s := range []string{
		"", "0", "0|", "|", "||", "x||", "00||", "+1||", "-0||", " 0||", "0 ||", "0 1||", "1000000000||",
		"0| |", "0|a |", "0| a|", "0|a  b|", "0|a:|", "0|:a|", "0|a b:0|", "0|a:0:0|", "0|| ", "0||a", "0||a:0", "0||a:0:0:0", "0||:0:0", "0||a::0", "0||a:0:", "0||a:x:0", "0||a:0:x",
		"0||a:00:0", "0||a:0:-0", "0||a:1000000000:0", "0||a:0:1000000000", "0||a:0:0 ", "0|| a:0:0", "0||a:0:0  b:0:0", "0||a:0:0 b", "0|a|a:0:0|", "0||a:0:0|", "0||a :0:0", "0||a:0:0\n", "0\n||",
	} {
		fails(t, fmt.Sprintf("ParseState of %q", s), api.ErrSyntax)(rank.ParseState(s))
	}
}

// TestTexts is of P4.11.
func TestTexts(t *testing.T) {
	r := rand.New(rand.NewSource(7))
	for range 500 {
		rules := anyRules(r)
		l := anyLog(r, rules, 40, allKinds...)
		for _, x := range l {
			gives(t, fmt.Sprint("an event that was printed, ", x), x)(rank.ParseEvent(rank.FormatEvent(x)))
		}
		s := first(replayed(rules, l))
		back, e := rank.ParseState(rank.FormatState(s))
		gives(t, fmt.Sprint("a state that was printed, ", s), s)(back, e)
		fails(t, "CheckState of it", api.OK)(0, rank.CheckState(rules, back))
	}
}
