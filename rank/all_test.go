package rank_test

import (
	"fmt"
	"math"
	"math/rand"
	"slices"
	"strings"
	"testing"

	"fiacre/api"
	"fiacre/rank"
)

// odd returns a number that is likely to be at an end of something.
func odd(r *rand.Rand) int {
	ends := []int{math.MinInt, -2, -1, 0, 1, 2, 3, 5, 6, 7, 12, 13, 40, 41, 200, 3600, 3601, 604800, 604801, math.MaxInt}
	return ends[r.Intn(len(ends))]
}

// small returns a number that is most often one of a rank.
func small(r *rand.Rand) int {
	if r.Intn(8) == 0 {
		return odd(r)
	}
	return r.Intn(3)
}

func oddName(r *rand.Rand) string {
	return []string{"", "a", "c1", "c2", "c3", "7", "\xff\n", "a b", "x|y", "a:b"}[r.Intn(10)]
}

// spoilt returns rules in which a few things are changed to odd ones.
func spoilt(r *rand.Rand) api.RankRules {
	rules := anyRules(r)
	for range r.Intn(3) {
		p := &rules.Ranks[r.Intn(len(rules.Ranks))]
		switch r.Intn(8) {
		case 0:
			p.Name = oddName(r)
		case 1:
			p.Places = odd(r)
		case 2:
			p.Feeder = odd(r)
		case 3:
			p.Called = true
		case 4:
			rules.Back = odd(r)
		case 5:
			rules.Return = odd(r)
		case 6:
			rules.Ranks = slices.Repeat(rules.Ranks, 3)
		}
	}
	return rules
}

// spoiltState returns a state in which a few things are changed to odd ones.
func spoiltState(r *rand.Rand, rules api.RankRules, s api.RankState) api.RankState {
	for range r.Intn(3) {
		switch r.Intn(5) {
		case 0:
			s.Queues = append(s.Queues, []string{oddName(r)})
		case 1:
			s.Queues = s.Queues[:r.Intn(len(s.Queues)+1)]
		case 2:
			if len(s.Queues) > 0 {
				i := r.Intn(len(s.Queues))
				s.Queues[i] = append(s.Queues[i], oddName(r))
			}
		case 3:
			s.Taken = append(s.Taken, api.RankTaken{Car: oddName(r), Rank: odd(r), At: odd(r)})
		case 4:
			s.At = odd(r)
		}
	}
	return s
}

// oddEvents returns a log to which odd events are added.
func oddEvents(r *rand.Rand, l []api.RankEvent) []api.RankEvent {
	l = slices.Clone(l)
	for range r.Intn(3) {
		l = append(l, api.RankEvent{Kind: small(r), At: odd(r), Rank: small(r), Car: oddName(r)})
	}
	return l
}

// TestNoPanic is of P1: with whatever arguments every function ends, and beside an error all other results are zero values.
func TestNoPanic(t *testing.T) {
	r := rand.New(rand.NewSource(8))
	for range 4000 {
		right := anyRules(r)
		log := anyLog(r, right, 20, allKinds...)
		rules := [2]api.RankRules{right, spoilt(r)}[r.Intn(2)]
		l, s := oddEvents(r, log), spoiltState(r, right, first(replayed(right, log)))
		x := api.RankEvent{Kind: small(r), At: odd(r), Rank: small(r), Car: oddName(r)}
		ends := zero(t)
		ends(0, rank.CheckState(rules, s))
		ends(rank.Begin(rules))
		ends(0, rank.CheckEvent(rules, x))
		ends(rank.Apply(rules, s, x))
		ends(replayed(rules, l))
		ends(rank.Possible(rules, s, odd(r)))
		ends(rank.Next(rules, s, small(r)))
		ends(rank.PlaceOf(rules, s, oddName(r)))
		ends(rank.Ahead(rules, s, oddName(r)))
		ends(rank.Stays(rules, l))
		ends(rank.Waits(rules, l))
		ends(rank.ServedOf(rules, l, oddName(r)))
		ends(rank.Spread(rules, l))
		ends(rank.SightingsOf(rules, l))
		ends(rank.Overtaken([]api.RankSighting{{Kind: small(r), Rank: small(r), Car: oddName(r)}, {Kind: small(r), Rank: small(r), Car: oddName(r)}}))
		ends(rank.ParseEvent(scribbled(r, rank.FormatEvent(x))))
		ends(rank.ParseState(scribbled(r, rank.FormatState(s))))
		rank.CheckRules(rules)
	}
}

// zero returns a function that takes a result and its error, and wants nothing beside an error.
func zero(t *testing.T) func(got any, e api.Errno) {
	t.Helper()
	return func(got any, e api.Errno) {
		t.Helper()
		if e < api.OK || e > api.ErrBalance || e != api.OK && !isNothing(got) {
			t.Errorf("beside the error %d: %v", e, got)
		}
	}
}

// scribbled returns a text in which a few bytes are changed.
func scribbled(r *rand.Rand, s string) string {
	b := []byte(s)
	for range r.Intn(4) {
		if len(b) > 0 {
			b[r.Intn(len(b))] = "\n -+09a|:\xff"[r.Intn(10)]
		}
	}
	return string(b)
}

// roomy returns a list of the same elements with room behind it.
func roomy[T any](list []T) []T { return append(make([]T, 0, len(list)+9), list...) }

func roomyState(s api.RankState) api.RankState {
	s.Queues, s.Taken = roomy(s.Queues), roomy(s.Taken)
	for i := range s.Queues {
		s.Queues[i] = roomy(s.Queues[i])
	}
	return s
}

// behind returns a state, and what stands in the room behind all its lists.
func behind(s api.RankState) string {
	text := fmt.Sprint(s.At, s.Queues[:cap(s.Queues)], s.Taken[:cap(s.Taken)])
	for _, queue := range s.Queues {
		text += fmt.Sprint(queue[:cap(queue)])
	}
	return text
}

// spoil changes all that a state has, and what is in the room behind it.
func spoil(s api.RankState) {
	for _, queue := range s.Queues {
		spoilList(queue, "spoilt")
	}
	spoilList(s.Queues, []string{"spoilt"})
	spoilList(s.Taken, api.RankTaken{Car: "spoilt"})
}

func spoilList[T any](list []T, odd T) {
	for i := range list {
		list[i] = odd
	}
	_ = append(list, odd)
}

// TestMemory is of R3: arguments stay as they are, and results share no memory with them.
func TestMemory(t *testing.T) {
	rules, s, l := airport(), roomyState(state(full)), roomy(events("arrive 1 4 a; arrive 1 4 b; call 1 3 -; serve 2 0 a; return 3 0 a"))
	rules.Ranks = roomy(rules.Ranks)
	seen := roomy(sightings("arrive 0 a; arrive 0 b; serve 0 b"))
	all := func() string { return behind(s) + fmt.Sprint(rules.Ranks[:14], l[:14], seen[:12]) }
	before := all()
	for _, x := range events("serve 9 0 a; decline 9 0 a; decline 9 4 g; leave 9 2 c; leave 9 4 h; call 9 3 -; arrive 9 4 j; return 9 1 t; leave 9 1 x; arrive 9 4 t") {
		spoil(first(rank.Apply(rules, s, x)))
	}
	spoil(first(replayed(rules, l)))
	spoil(first(rank.Begin(rules)))
	for _, car := range []string{"b", "c", "i"} {
		ahead := append(first(rank.Ahead(rules, s, car)), "spoilt")
		ahead[0] = "spoilt"
	}
	possible := append(first(rank.Possible(rules, s, 9)), event("serve 9 9 x"))
	possible[0].Car = "spoilt"
	sighted := append(first(rank.SightingsOf(rules, l)), seen[0])
	sighted[0].Car = "spoilt"
	rank.CheckRules(rules)
	rank.CheckState(rules, s)
	rank.CheckEvent(rules, l[0])
	rank.Next(rules, s, 0)
	rank.PlaceOf(rules, s, "a")
	rank.Stays(rules, l)
	rank.Waits(rules, l)
	rank.ServedOf(rules, l, "a")
	rank.Spread(rules, l)
	rank.Overtaken(seen)
	rank.FormatState(s)
	if after := all(); after != before {
		t.Errorf("an argument was changed from %s to %s", before, after)
	}
}

// TestMemoryOfResults is of R3: the lists of one result share no memory with each other.
func TestMemoryOfResults(t *testing.T) {
	l := events("arrive 0 0 a; arrive 0 0 b; arrive 1 1 c; arrive 1 1 d; arrive 1 1 e; serve 2 0 a; serve 3 1 d")
	for _, make := range []func() (api.RankState, api.Errno){
		func() (api.RankState, api.Errno) { return replayed(stand(), l) },
		func() (api.RankState, api.Errno) {
			return rank.Apply(stand(), state("2|b c|d e|a:0:2"), event("serve 3 1 d"))
		},
		func() (api.RankState, api.Errno) { return rank.ParseState("3|b c|e|a:0:2 d:1:3") },
		func() (api.RankState, api.Errno) {
			return rank.Apply(alone(2, 0, 0), state("3||"), event("arrive 3 0 a"))
		},
		func() (api.RankState, api.Errno) { return rank.Begin(stand()) },
	} {
		s, e := make()
		before := fmt.Sprint(s)
		for i, queue := range s.Queues {
			for range 5 {
				queue = append(queue, "spoilt")
			}
			if after := fmt.Sprint(s); after != before || e != api.OK {
				t.Errorf("behind an addition to the queue %d, %s became %s, error %d", i, before, after, e)
			}
		}
	}
}

// TestNothing is of R5: a nil list and an empty one are the same.
func TestNothing(t *testing.T) {
	for _, s := range []api.RankState{{Queues: [][]string{nil, nil}}, {Queues: [][]string{{}, {}}, Taken: []api.RankTaken{}}} {
		fails(t, "CheckState", api.OK)(0, rank.CheckState(stand(), s))
		gives(t, "Apply", state("7|a||"))(rank.Apply(stand(), s, event("arrive 7 0 a")))
		gives(t, "Possible", "[]")(rank.Possible(stand(), s, 7))
		gives(t, "FormatState", "0|||")(rank.FormatState(s), api.OK)
	}
	for _, l := range [][]api.RankEvent{nil, {}} {
		gives(t, "Replay", state("0|||"))(replayed(stand(), l))
		gives(t, "Stays", "[]")(rank.Stays(stand(), l))
		fails(t, "Spread", api.ErrNone)(rank.Spread(stand(), l))
	}
	fails(t, "CheckRules", api.ErrShape)(rank.CheckRules(api.RankRules{Ranks: []api.RankPlace{}}))
	fails(t, "CheckState without queues", api.ErrShape)(0, rank.CheckState(stand(), api.RankState{Queues: [][]string{}}))
	fails(t, "Overtaken", api.ErrNone)(rank.Overtaken([]api.RankSighting{}))
}

// TestLarge is of P1: also long texts and lists are soon done with.
func TestLarge(t *testing.T) {
	fails(t, "ParseEvent of blanks", api.ErrSyntax)(rank.ParseEvent(strings.Repeat(" ", 1<<20)))
	fails(t, "ParseEvent of a long name", api.ErrName)(rank.ParseEvent("serve 0 0 " + strings.Repeat("a", 1<<20)))
	s, e := rank.ParseState("0" + strings.Repeat("|a b c", 1<<16) + "|")
	gives(t, "ParseState of many ranks", 1<<16)(len(s.Queues), e)
	fails(t, "CheckState of many ranks", api.ErrShape)(0, rank.CheckState(stand(), s))
	fails(t, "Replay of many events", api.ErrLarge)(replayed(stand(), make([]api.RankEvent, 1<<20)))
	fails(t, "Overtaken in many sightings", api.ErrLarge)(rank.Overtaken(make([]api.RankSighting, 1<<20)))
	fails(t, "CheckRules of many ranks", api.ErrLarge)(rank.CheckRules(api.RankRules{Ranks: make([]api.RankPlace, 1<<20)}))
}
