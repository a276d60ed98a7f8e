package rank_test

import (
	"fmt"
	"math"
	"math/rand"
	"strings"
	"testing"

	"fiacre/api"
	"fiacre/rank"
)

// TestCheckEvent is of P4.2.
func TestCheckEvent(t *testing.T) {
	for _, x := range []struct {
		x api.RankEvent
		e api.Errno
	}{
		{event("arrive 0 0 a"), api.OK},
		{event("return 604800 1 abcdefghijkl"), api.OK},
		{event("call 9 0 -"), api.OK},
		{event("call 9 1 -"), api.OK},
		{api.RankEvent{Kind: -1, At: -1}, api.ErrKind},
		{api.RankEvent{Kind: 6, Car: "a"}, api.ErrKind},
		{api.RankEvent{Kind: math.MaxInt, Car: "a"}, api.ErrKind},
		{event("serve -1 9 a"), api.ErrRange},
		{event("serve 604801 0 a"), api.ErrRange},
		{event("serve 0 2 -"), api.ErrMissing},
		{event("serve 0 -1 a"), api.ErrMissing},
		{event("call 0 2 a"), api.ErrMissing},
		{event("call 0 0 a"), api.ErrForm},
		{event("call 0 0 7"), api.ErrForm},
		{event("arrive 0 0 -"), api.ErrName},
		{event("serve 0 0 7"), api.ErrName},
		{event("decline 0 0 abcdefghijklm"), api.ErrName},
		{event("leave 0 0 -"), api.ErrName},
		{event("return 0 0 -"), api.ErrName},
		{api.RankEvent{Kind: api.RankReturn, Car: "a b"}, api.ErrName},
	} {
		what := fmt.Sprint(x.x)
		fails(t, "CheckEvent of "+what, x.e)(0, rank.CheckEvent(stand(), x.x))
		if x.e != api.OK {
			fails(t, "Apply of "+what, x.e)(rank.Apply(stand(), state("604800|||"), x.x))
		}
	}
}

// TestApply is of P4.2, and of the examples 1 to 4.
func TestApply(t *testing.T) {
	for _, x := range []struct{ before, x, behind string }{
		{"0|||", "arrive 0 0 a", "0|a||"},
		{"0|a||", "arrive 5 0 b", "5|a b||"},
		{"5|a b||", "arrive 9 1 c", "9|a b|c|"},
		{"9|a b|c|", "serve 20 0 a", "20|b c||a:0:20"},
		{"20|b c||a:0:20", "decline 30 0 b", "30|c b||a:0:20"},
		{"72|b||a:0:20 c:0:71", "serve 99 0 b", "99|||a:0:20 c:0:71 b:0:99"},
		{"71|b||a:0:20 c:0:71", "return 79 0 a", "79|a b||c:0:71"},
		{"71|b||a:0:20 c:0:71", "return 80 0 a", "80|a b||c:0:71"},
		{"71|b||a:0:20 c:0:71", "return 131 0 c", "131|c b||a:0:20"},
		{"0|||", "arrive 3 1 a", "3|a||"},
		{"0|a||", "arrive 3 1 b", "3|a b||"},
		{"0|a b|c d|", "arrive 3 1 e", "3|a b|c d e|"},
		{"9|a||b:0:1 c:1:5 d:0:7", "arrive 9 0 c", "9|a c||b:0:1 d:0:7"},
		{"9|a||b:0:1 c:1:5 d:0:7", "arrive 99 1 b", "99|a b||c:1:5 d:0:7"},
		{"0|a b|c d|", "serve 1 1 c", "1|a b|d|c:1:1"},
		{"0|a b|c d|", "decline 1 1 c", "1|a b|d c|"},
		{"0|a b|c d e|", "decline 1 1 c", "1|a b|d c e|"},
		{"0|a||", "decline 1 0 a", "1|a||"},
		{"0|a b|c d|", "leave 1 0 b", "1|a c|d|"},
		{"0|a b|c d|", "leave 1 0 a", "1|b c|d|"},
		{"0|a b|c d|", "leave 1 1 d", "1|a b|c|"},
		{"0|a b||c:1:0 d:0:0", "return 60 1 c", "60|a b|c|d:0:0"},
		{"0|a b|x y|c:1:0 d:0:0", "return 60 1 c", "60|a b|c x y|d:0:0"},
		{"604800|a b||", "serve 604800 0 a", "604800|b||a:0:604800"},
	} {
		gives(t, x.x+" behind "+x.before, state(x.behind))(rank.Apply(stand(), state(x.before), event(x.x)))
	}
}

// TestApplyErrors is of P4.2.
func TestApplyErrors(t *testing.T) {
	for _, x := range []struct {
		before, x string
		e         api.Errno
	}{
		{"5|a b||", "arrive 4 0 a", api.ErrOrder},
		{"5|a b|c|", "call 4 1 -", api.ErrOrder},
		{"5|a b||", "serve 4 1 x", api.ErrOrder},
		{"5|a b||", "return 4 0 x", api.ErrOrder},
		{"5|a b||", "arrive 9 0 c", api.ErrFull},
		{"5|a b||", "arrive 9 0 a", api.ErrExists},
		{"5|a b||", "arrive 9 1 b", api.ErrExists},
		{"5|a b|c d e|", "arrive 9 1 d", api.ErrExists},
		{"9|a b|c|", "arrive 10 0 d", api.ErrClash},
		{"9|a b|c|", "arrive 10 0 c", api.ErrExists},
		{"9|a b|c d e|", "arrive 10 1 f", api.ErrFull},
		{"9|||", "serve 9 0 a", api.ErrNone},
		{"9|||", "decline 9 0 a", api.ErrNone},
		{"9|a b||", "serve 9 1 a", api.ErrNone},
		{"9|a b|c|", "serve 9 0 b", api.ErrClash},
		{"9|a b|c|", "serve 9 0 x", api.ErrClash},
		{"9|a b|c|", "decline 9 0 b", api.ErrClash},
		{"9|a b|c|", "decline 9 1 a", api.ErrClash},
		{"9|a b|c|", "leave 9 0 c", api.ErrMissing},
		{"9|a b|c|", "leave 9 1 a", api.ErrMissing},
		{"9|a b|c|", "leave 9 1 x", api.ErrMissing},
		{"9|a b||c:0:9", "leave 9 0 c", api.ErrMissing},
		{"9|a b|c|", "call 9 1 -", api.ErrMissing},
		{"9|a b|c|", "call 9 0 -", api.ErrState},
		{"9|a b||", "call 9 0 -", api.ErrState},
		{"70|c b||a:0:20", "return 70 0 a", api.ErrFull},
		{"70|c b||a:0:20", "return 80 0 a", api.ErrFull},
		{"70|c b||a:0:20", "return 81 0 a", api.ErrLate},
		{"71|b||a:0:20 c:0:71", "return 81 0 a", api.ErrLate},
		{"71|b||a:0:20 c:0:71", "return 72 1 a", api.ErrMissing},
		{"71|b||a:0:20 c:0:71", "return 99 1 a", api.ErrMissing},
		{"71|b||a:0:20 c:0:71", "return 72 0 b", api.ErrMissing},
		{"71|b||a:0:20 c:0:71", "return 72 0 x", api.ErrMissing},
		{"71|b a||c:1:71", "return 72 0 c", api.ErrMissing},
	} {
		fails(t, x.x+" behind "+x.before, x.e)(rank.Apply(stand(), state(x.before), event(x.x)))
	}
}

// TestDecline is of P4.2: how far a car goes back.
func TestDecline(t *testing.T) {
	for _, x := range []struct {
		back           int
		before, behind string
	}{
		{0, "0|a b c d|", "a b c d"},
		{0, "0|a|", "a"},
		{1, "0|a b c d|", "b a c d"},
		{2, "0|a b c d|", "b c a d"},
		{3, "0|a b c d|", "b c d a"},
		{4, "0|a b c d|", "b c d a"},
		{12, "0|a b c d|", "b c d a"},
		{12, "0|a b|", "b a"},
		{api.RankLast, "0|a b c d|", "b c d a"},
		{api.RankLast, "0|a|", "a"},
		{api.RankLast, "0|a b c d e f g h i j k l|", "b c d e f g h i j k l a"},
	} {
		s, e := rank.Apply(alone(12, x.back, 0), state(x.before), event("decline 7 0 a"))
		gives(t, fmt.Sprint("decline with back ", x.back, " behind ", x.before), state("7|"+x.behind+"|"))(s, e)
	}
}

// TestCall is of P4.2.
func TestCall(t *testing.T) {
	for _, x := range []struct{ before, x, behind string }{
		{"0|||||e f|", "call 1 3 -", "1|e||||f|"},
		{"0|a b||c d||e f|", "call 1 3 -", "1|a b||c d|e|f|"},
		{"0|a b||c d|x y|e|", "call 0 3 -", "0|a b||c d|x y e||"},
		{"0|a b||c||e|", "call 0 3 -", "0|a b||c e|||"},
		{"0||||||", "arrive 1 4 e", "1|||||e|"},
		{"0||||||", "arrive 1 3 e", "1|e|||||"},
		{"0|a b||c d|x|e|", "serve 2 0 a", "2|b c||d x||e|a:0:2"},
		{"0|a b||c d|x|e|", "leave 2 2 c", "2|a b||d x||e|"},
		{"2|a b||c d||e|x:3:2", "return 2 3 x", "2|a b||c d|x|e|"},
		{"2|a|||||x:3:2", "return 2 3 x", "2|a x|||||"},
		{"2|a|||||x:1:2", "return 2 1 x", "2|a|x||||"},
	} {
		gives(t, x.x+" behind "+x.before, state(x.behind))(rank.Apply(airport(), state(x.before), event(x.x)))
	}
	for _, x := range []struct {
		before, x string
		e         api.Errno
	}{
		{"0|||||e|", "call 1 1 -", api.ErrMissing},
		{"0|||||e|", "call 1 4 -", api.ErrMissing},
		{"0|||||e|", "call 1 2 -", api.ErrState},
		{"0|a b||c d|e||", "call 1 0 -", api.ErrState},
		{"0||||||", "call 1 3 -", api.ErrNone},
		{"0|a b||c d|x y z||", "call 1 3 -", api.ErrNone},
		{"0|a b||c d|x y z|e|", "call 1 3 -", api.ErrFull},
		{"0|||||e|", "arrive 1 3 x", api.ErrClash},
		{"0|a b||c d|x y z|e|", "arrive 1 3 v", api.ErrClash},
		{"0|a b||c d|x y z||", "arrive 1 3 v", api.ErrFull},
	} {
		fails(t, x.x+" behind "+x.before, x.e)(rank.Apply(airport(), state(x.before), event(x.x)))
	}
}

// TestManyTaken is of P4.2: no more than 40 cars are taken.
func TestManyTaken(t *testing.T) {
	s := state("5|a b c|")
	for i := range 39 {
		s.Taken = append(s.Taken, api.RankTaken{Car: fmt.Sprint("t", i), At: i / 10})
	}
	r := alone(12, 1, 60)
	s, e := rank.Apply(r, s, event("serve 6 0 a"))
	if len(s.Taken) != 40 || s.Taken[39] != (api.RankTaken{Car: "a", Rank: 0, At: 6}) || e != api.OK {
		t.Errorf("the 40th car: %v, error %d", s.Taken, e)
	}
	fails(t, "the 41st car", api.ErrLarge)(rank.Apply(r, s, event("serve 6 0 b")))
	fails(t, "the 41st car that is not the first one", api.ErrClash)(rank.Apply(r, s, event("serve 6 0 c")))
	gives(t, "Possible with 40 cars", events("decline 7 0 b"))(rank.Possible(r, s, 7))
	s, e = rank.Apply(r, s, event("return 6 0 t3"))
	gives(t, "a car that returns", "[t3 b c]")(s.Queues[0], e)
	gives(t, "Possible with 39 cars", events("serve 7 0 t3; decline 7 0 t3"))(rank.Possible(r, s, 7))
}

// TestReplay is of P4.2.
func TestReplay(t *testing.T) {
	l := "arrive 0 0 a; arrive 5 0 b; arrive 9 1 c; serve 20 0 a; decline 30 0 b; serve 71 0 c; return 79 0 a"
	gives(t, "Replay", state("79|a b||c:0:71"))(replayed(stand(), events(l)))
	gives(t, "Replay of nothing", state("0|||"))(replayed(stand(), nil))
	many := "arrive 0 0 a" + strings.Repeat("; decline 0 0 a", 199)
	gives(t, "Replay of 200 events", state("0|a||"))(replayed(stand(), events(many)))
	for _, x := range []struct {
		l      string
		number int
		e      api.Errno
	}{
		{"arrive 0 0 a; arrive 5 0 b; arrive 9 0 c", 2, api.ErrFull},
		{"serve 0 0 a", 0, api.ErrNone},
		{"arrive 7 0 a; arrive 6 0 b; serve 0 0 b", 1, api.ErrOrder},
		{"arrive 7 0 a; arrive 8 0 a", 1, api.ErrExists},
		{"arrive 7 0 a; arrive 8 0 7", 1, api.ErrName},
		{"arrive 7 0 a; arrive 8 2 b; arrive 9 0 7", 1, api.ErrMissing},
		{"arrive 7 0 a; call 8 0 b", 1, api.ErrForm},
		{"arrive 7 0 a; serve 604801 0 a", 1, api.ErrRange},
		{l + "; return 79 0 c", 7, api.ErrFull},
		{many + "; decline 0 0 a", 0, api.ErrLarge},
		{many + "; serve -1 9 -", 0, api.ErrLarge},
		{"serve 0 0 a; " + many, 0, api.ErrLarge},
	} {
		s, i, e := rank.Replay(stand(), events(x.l))
		fails(t, "Replay of "+x.l, x.e)(s, e)
		if i != x.number {
			t.Errorf("Replay of %s: number %d, want %d", x.l, i, x.number)
		}
		wrongLog(t, x.l, events(x.l), x.e)
	}
	_, i, e := rank.Replay(stand(), []api.RankEvent{event("arrive 0 0 a"), {Kind: 6, Car: "a"}})
	if i != 1 || e != api.ErrKind {
		t.Errorf("Replay with no kind: number %d, error %d", i, e)
	}
}

// wrongLog wants the error of a log from all functions that are given one.
func wrongLog(t *testing.T, what string, l []api.RankEvent, wanted api.Errno) {
	t.Helper()
	fails(t, "Stays, "+what, wanted)(rank.Stays(stand(), l))
	fails(t, "Waits, "+what, wanted)(rank.Waits(stand(), l))
	fails(t, "ServedOf, "+what, wanted)(rank.ServedOf(stand(), l, ""))
	fails(t, "Spread, "+what, wanted)(rank.Spread(stand(), l))
	fails(t, "SightingsOf, "+what, wanted)(rank.SightingsOf(stand(), l))
}

// TestPossible is of P4.2.
func TestPossible(t *testing.T) {
	for _, x := range []struct{ s, events string }{
		{"5|||", ""},
		{"5|a b|c|", "serve 9 0 a; decline 9 0 a; serve 9 1 c; decline 9 1 c"},
		{"9|a b||c:0:9", "serve 9 0 a; decline 9 0 a"},
	} {
		gives(t, "Possible in "+x.s, events(x.events))(rank.Possible(stand(), state(x.s), 9))
	}
	for _, x := range []struct{ s, events string }{
		{"5|||||e|", "call 5 3 -; serve 5 4 e; decline 5 4 e"},
		{"5|a b||c d|x y|e|", "serve 5 0 a; decline 5 0 a; serve 5 2 c; decline 5 2 c; serve 5 3 x; decline 5 3 x; call 5 3 -; serve 5 4 e; decline 5 4 e"},
		{"5|a b||c d|x y z|e|", "serve 5 0 a; decline 5 0 a; serve 5 2 c; decline 5 2 c; serve 5 3 x; decline 5 3 x; serve 5 4 e; decline 5 4 e"},
	} {
		gives(t, "Possible at the airport in "+x.s, events(x.events))(rank.Possible(airport(), state(x.s), 5))
	}
	gives(t, "Possible at the latest", events("serve 604800 0 a; decline 604800 0 a"))(rank.Possible(stand(), state("5|a||"), 604800))
	for at, e := range map[int]api.Errno{-1: api.ErrRange, 604801: api.ErrRange, math.MinInt: api.ErrRange, 4: api.ErrOrder, 0: api.ErrOrder} {
		fails(t, fmt.Sprint("Possible at ", at), e)(rank.Possible(stand(), state("5|a||"), at))
	}
}

// TestAnyEvents is of P4.1, P4.2 and P4.8: what events come to, compared with the definition, and no car is lost.
func TestAnyEvents(t *testing.T) {
	r := rand.New(rand.NewSource(1))
	reached := map[string]int{}
	for range 600 {
		rules, l := anyRules(r), []api.RankEvent{}
		s := first(rank.Begin(rules))
		for range 60 {
			x := anyEvent(r, rules, s, allKinds[r.Intn(len(allKinds))])
			wanted, error := slowApply(rules, s, x)
			reached[fmt.Sprint(kinds[x.Kind], " ", error)]++
			if error != api.OK {
				fails(t, fmt.Sprint(rules, s, x), error)(rank.Apply(rules, s, x))
				s2, i, e := rank.Replay(rules, append(l, x))
				fails(t, fmt.Sprint("Replay by ", rules, l, x), error)(s2, e)
				if i != len(l) {
					t.Errorf("Replay by %v, %v: number %d", rules, append(l, x), i)
				}
				continue
			}
			behind, e := rank.Apply(rules, s, x)
			gives(t, fmt.Sprint(rules, s, x), wanted)(behind, e)
			fails(t, fmt.Sprint("CheckState of ", rules, behind), api.OK)(0, rank.CheckState(rules, behind))
			sameCars(t, rules, s, x, behind)
			possible(t, r, rules, behind)
			s, l = behind, append(l, x)
		}
		gives(t, fmt.Sprint("Replay by ", rules, l), s)(replayed(rules, l))
	}
	for _, s := range []string{"arrive 5", "arrive 13", "arrive 16", "serve 12", "serve 13", "decline 12", "decline 13", "leave 6", "call 6", "call 22", "call 12", "call 16", "return 6", "return 25", "return 16", "arrive 0", "serve 0", "decline 0", "leave 0", "call 0", "return 0"} {
		if reached[s] == 0 {
			t.Errorf("no random event was %s", s)
		}
	}
}

// sameCars tests P4.8.
func sameCars(t *testing.T, rules api.RankRules, s api.RankState, x api.RankEvent, behind api.RankState) {
	t.Helper()
	wanted := carsOf(s)
	switch x.Kind {
	case api.RankArrive, api.RankReturn:
		wanted[x.Car]++
	case api.RankServe, api.RankLeave:
		delete(wanted, x.Car)
	}
	if fmt.Sprint(carsOf(behind)) != fmt.Sprint(wanted) {
		t.Errorf("%v behind %v: the cars are %v", x, s, behind.Queues)
	}
	for i, queue := range behind.Queues {
		if len(queue) > rules.Ranks[i].Places {
			t.Errorf("%v behind %v: more cars than places: %v", x, s, behind.Queues)
		}
	}
}

func carsOf(s api.RankState) map[string]int {
	cars := map[string]int{}
	for _, queue := range s.Queues {
		for _, car := range queue {
			cars[car]++
		}
	}
	return cars
}

// possible tests that Possible returns the events of its kinds that Apply accepts.
func possible(t *testing.T, r *rand.Rand, rules api.RankRules, s api.RankState) {
	t.Helper()
	at := s.At + r.Intn(3)
	var wanted []api.RankEvent
	for i, queue := range s.Queues {
		for _, x := range events(fmt.Sprintf("serve %d %d %s; decline %d %d %s; call %d %d -", at, i, head(queue), at, i, head(queue), at, i)) {
			if slowError(rules, s, x) == api.OK {
				wanted = append(wanted, x)
			}
		}
	}
	gives(t, fmt.Sprint("Possible ", rules, s), wanted)(rank.Possible(rules, s, at))
}

func head(queue []string) string {
	if len(queue) == 0 {
		return "none"
	}
	return queue[0]
}
