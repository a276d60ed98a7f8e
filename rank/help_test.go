package rank_test

import (
	"fmt"
	"math/rand"
	"reflect"
	"slices"
	"strconv"
	"strings"
	"testing"

	"fiacre/api"
	"fiacre/rank"
)

// gives returns a function that takes a result and its error, and compares the result with what is wanted. A nil list and an empty one are the same.
func gives(t *testing.T, what string, wanted any) func(got any, e api.Errno) {
	t.Helper()
	return func(got any, e api.Errno) {
		t.Helper()
		if fmt.Sprint(got) != fmt.Sprint(wanted) || e != api.OK {
			t.Errorf("%s: %v, error %d; want %v", what, got, e, wanted)
		}
	}
}

// fails returns a function that takes a result and its error, and wants this error, and nothing beside it.
func fails(t *testing.T, what string, wanted api.Errno) func(got any, e api.Errno) {
	t.Helper()
	return func(got any, e api.Errno) {
		t.Helper()
		if !isNothing(got) || e != wanted {
			t.Errorf("%s: %v, error %d; want the error %d and nothing beside it", what, got, e, wanted)
		}
	}
}

func isNothing(x any) bool {
	v := reflect.ValueOf(x)
	if v.Kind() == reflect.Slice {
		return v.Len() == 0
	}
	if v.Kind() != reflect.Struct {
		return v.IsZero()
	}
	for i := range v.NumField() {
		if !isNothing(v.Field(i).Interface()) {
			return false
		}
	}
	return true
}

func first[T any](x T, _ api.Errno) T { return x }

// replayed returns what Replay returns without the number, which has to be 0 where there is no error.
func replayed(r api.RankRules, l []api.RankEvent) (api.RankState, api.Errno) {
	s, i, e := rank.Replay(r, l)
	if i != 0 && e == api.OK {
		panic("a number beside no error")
	}
	return s, e
}

func place(name string, places, feeder int) api.RankPlace {
	return api.RankPlace{Name: name, Places: places, Feeder: feeder}
}

func calledPlace(name string, places, feeder int) api.RankPlace {
	return api.RankPlace{Name: name, Places: places, Feeder: feeder, Called: true}
}

// stand is the rules of the document's examples.
func stand() api.RankRules {
	return api.RankRules{Ranks: []api.RankPlace{place("stand", 2, 1), place("feeder", 3, -1)}, Back: 1, Return: 60}
}

// airport is rules with a chain of ranks, the last one of which waits for calls.
func airport() api.RankRules {
	ranks := []api.RankPlace{place("gate", 2, 2), place("far", 1, -1), place("lane", 2, 3), calledPlace("yard", 3, 4), place("field", 12, -1)}
	return api.RankRules{Ranks: ranks, Back: api.RankLast, Return: 3600}
}

// alone is rules with one rank.
func alone(places, back, ret int) api.RankRules {
	return api.RankRules{Ranks: []api.RankPlace{place("stand", places, -1)}, Back: back, Return: ret}
}

// nameless is rules with a rank whose name is none.
func nameless() api.RankRules {
	r := stand()
	r.Ranks[1].Name = ""
	return r
}

var kinds = []string{"arrive", "serve", "decline", "leave", "call", "return"}

// event returns the event that a text tells, also a wrong one.
func event(s string) api.RankEvent {
	parts := strings.Fields(s)
	x := api.RankEvent{Kind: slices.Index(kinds, parts[0]), At: number(parts[1]), Rank: number(parts[2])}
	if parts[3] != "-" {
		x.Car = parts[3]
	}
	return x
}

func number(s string) int {
	n, e := strconv.Atoi(s)
	if e != nil {
		panic(s + " is no number")
	}
	return n
}

// events returns the events that a text tells, with ";" between.
func events(s string) []api.RankEvent {
	var l []api.RankEvent
	for part := range strings.SplitSeq(s, ";") {
		if part != "" {
			l = append(l, event(part))
		}
	}
	return l
}

// sightings returns the sightings that a text like "arrive 0 a; serve 0 a" tells.
func sightings(s string) []api.RankSighting {
	var l []api.RankSighting
	for part := range strings.SplitSeq(s, ";") {
		words := strings.Fields(part)
		l = append(l, api.RankSighting{Kind: slices.Index(kinds, words[0]), Rank: number(words[1]), Car: words[2]})
	}
	return l
}

// state returns the state that a text like "20|b c||a:0:20" tells, also a wrong one.
func state(s string) api.RankState {
	pieces := strings.Split(s, "|")
	x := api.RankState{At: number(pieces[0])}
	last := len(pieces) - 1
	for _, piece := range pieces[1:last] {
		x.Queues = append(x.Queues, strings.Fields(piece))
	}
	for _, word := range strings.Fields(pieces[last]) {
		parts := strings.Split(word, ":")
		x.Taken = append(x.Taken, api.RankTaken{Car: parts[0], Rank: number(parts[1]), At: number(parts[2])})
	}
	return x
}

// anyRules returns random right rules.
func anyRules(r *rand.Rand) api.RankRules {
	rules := api.RankRules{Back: r.Intn(4) - 1, Return: []int{0, 5, 60, 3600}[r.Intn(4)]}
	n := 1 + r.Intn(api.MaxRankRanks)
	free := r.Perm(n)
	for i := range n {
		p := place(fmt.Sprint("r", i), 1+r.Intn(3), api.RankNone)
		for j, feeder := range free {
			if feeder > i && r.Intn(3) > 0 {
				p.Feeder, p.Called = feeder, r.Intn(3) == 0
				free = slices.Delete(free, j, j+1)
				break
			}
		}
		rules.Ranks = append(rules.Ranks, p)
	}
	return rules
}

// anyEvent returns a random event of a kind, most often one that is possible.
func anyEvent(r *rand.Rand, rules api.RankRules, s api.RankState, kind int) api.RankEvent {
	x := api.RankEvent{Kind: kind, At: s.At + []int{0, 1, 4, 40}[r.Intn(4)], Rank: r.Intn(len(rules.Ranks))}
	if kind == api.RankCall {
		return x
	}
	x.Car = fmt.Sprint("c", r.Intn(12))
	switch queue := s.Queues[x.Rank]; {
	case r.Intn(8) == 0:
	case kind == api.RankReturn && len(s.Taken) > 0:
		taken := s.Taken[r.Intn(len(s.Taken))]
		x.Car, x.Rank = taken.Car, taken.Rank
	case kind == api.RankLeave && len(queue) > 0:
		x.Car = queue[r.Intn(len(queue))]
	case kind != api.RankArrive && kind != api.RankReturn && len(queue) > 0:
		x.Car = queue[0]
	}
	return x
}

// anyLog returns a random right log of events of some kinds.
func anyLog(r *rand.Rand, rules api.RankRules, most int, kinds ...int) []api.RankEvent {
	var l []api.RankEvent
	s := slowBegin(rules)
	for range most {
		x := anyEvent(r, rules, s, kinds[r.Intn(len(kinds))])
		if next, e := slowApply(rules, s, x); e == api.OK {
			l, s = append(l, x), next
		}
	}
	return l
}

var allKinds = []int{api.RankArrive, api.RankArrive, api.RankServe, api.RankDecline, api.RankLeave, api.RankCall, api.RankReturn}

func slowBegin(rules api.RankRules) api.RankState {
	return api.RankState{Queues: make([][]string, len(rules.Ranks))}
}

// slowApply is the definition of an event, with new lists throughout.
func slowApply(rules api.RankRules, s api.RankState, x api.RankEvent) (api.RankState, api.Errno) {
	s, _, e := slowSteps(rules, s, x)
	return s, e
}

// slowSteps returns also what is seen.
func slowSteps(rules api.RankRules, s api.RankState, x api.RankEvent) (api.RankState, []api.RankSighting, api.Errno) {
	if e := slowError(rules, s, x); e != api.OK {
		return api.RankState{}, nil, e
	}
	queues := slices.Clone(s.Queues)
	var seen []api.RankSighting
	see := func(kind, rank int, car string) {
		seen = append(seen, api.RankSighting{Kind: kind, Rank: rank, Car: car})
	}
	move := func(to int) {
		feeder := rules.Ranks[to].Feeder
		car := queues[feeder][0]
		queues[feeder] = queues[feeder][1:]
		queues[to] = slices.Concat(queues[to], []string{car})
		see(api.RankLeave, feeder, car)
		see(api.RankArrive, to, car)
	}
	taken := slices.DeleteFunc(slices.Clone(s.Taken), func(y api.RankTaken) bool { return y.Car == x.Car })
	queue := queues[x.Rank]
	without := slices.DeleteFunc(slices.Clone(queue), func(car string) bool { return car == x.Car })
	switch x.Kind {
	case api.RankArrive:
		queues[x.Rank] = slices.Concat(queue, []string{x.Car})
	case api.RankServe:
		queues[x.Rank] = without
		taken = append(taken, api.RankTaken{Car: x.Car, Rank: x.Rank, At: x.At})
	case api.RankDecline:
		back := rules.Back
		if back < 0 || back > len(without) {
			back = len(without)
		}
		queues[x.Rank] = slices.Concat(without[:back], []string{x.Car}, without[back:])
	case api.RankLeave:
		queues[x.Rank] = without
	case api.RankCall:
		move(x.Rank)
	case api.RankReturn:
		queues[x.Rank] = slices.Concat([]string{x.Car}, queue)
		see(api.RankArrive, x.Rank, x.Car)
	}
	if x.Kind <= api.RankLeave {
		see(x.Kind, x.Rank, x.Car)
	}
	for moved := true; moved; {
		moved = false
		for i, p := range rules.Ranks {
			if !moved && p.Feeder >= 0 && !p.Called && len(queues[i]) < p.Places && len(queues[p.Feeder]) > 0 {
				move(i)
				moved = true
			}
		}
	}
	return api.RankState{Queues: queues, Taken: taken, At: x.At}, seen, api.OK
}

// slowError is the definition of the error of an event with a kind, at a time and a rank that there are.
func slowError(rules api.RankRules, s api.RankState, x api.RankEvent) api.Errno {
	queue, p := s.Queues[x.Rank], rules.Ranks[x.Rank]
	full := len(queue) == p.Places
	waits := p.Feeder >= 0 && len(s.Queues[p.Feeder]) > 0
	var taken *api.RankTaken
	for i, y := range s.Taken {
		if y.Car == x.Car && y.Rank == x.Rank {
			taken = &s.Taken[i]
		}
	}
	errors := []struct {
		kinds string
		is    bool
		e     api.Errno
	}{
		{"arrive serve decline leave call return", x.At < s.At, api.ErrOrder},
		{"arrive", slices.Contains(slices.Concat(s.Queues...), x.Car), api.ErrExists},
		{"arrive", waits, api.ErrClash},
		{"arrive", full, api.ErrFull},
		{"serve decline", len(queue) == 0, api.ErrNone},
		{"serve decline", len(queue) > 0 && queue[0] != x.Car, api.ErrClash},
		{"leave", !slices.Contains(queue, x.Car), api.ErrMissing},
		{"call", p.Feeder < 0, api.ErrMissing},
		{"call", !p.Called, api.ErrState},
		{"call", !waits, api.ErrNone},
		{"call", full, api.ErrFull},
		{"return", taken == nil, api.ErrMissing},
		{"return", taken != nil && x.At-taken.At > rules.Return, api.ErrLate},
		{"return", full, api.ErrFull},
		{"serve", len(s.Taken) == 40, api.ErrLarge},
	}
	for _, y := range errors {
		if slices.Contains(strings.Fields(y.kinds), kinds[x.Kind]) && y.is {
			return y.e
		}
	}
	return api.OK
}
