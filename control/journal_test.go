package control_test

import (
	"fmt"
	"math/rand"
	"slices"
	"testing"

	"fiacre/api"
	"fiacre/control"
)

// TestCheckJournal is of P10.3: right journals.
func TestCheckJournal(t *testing.T) {
	for what, l := range map[string][]api.ControlEntry{
		"the example":             example(),
		"nothing":                 nil,
		"clocks with gaps":        journal("7 b 0 dan order - p", "100000 a 0 dan order - p"),
		"desks of one clock":      journal("1 B-3 0 dan order - p", "1 a 0 dan order - p", "1 b 0 dan order - p", "2 a 1 dan order - p"),
		"sixty entries":           orders("a", 1, 60),
		"one clock of one desk":   journal("3 a 0 dan order - p", "3 a 1 dan order - q", "3 b 0 dan order - p"),
		"entries of two in turn":  journal("1 a 0 dan order - p", "2 b 0 dan order - p", "3 a 1 dan order - p", "4 b 1 dan order - p"),
		"trips that never were":   journal("1 a 0 dan cancel b.59 -", "2 a 1 dan assign a.0 x"),
		"the same thing at once":  journal("1 a 0 dan order - p", "2 a 1 dan order - p"),
		"an entry about a future": journal("1 a 0 dan assign a.1 x", "2 a 1 dan order - p"),
	} {
		at(t, what, 0, api.OK)(control.CheckJournal(setup(), l))
	}
}

// TestCheckJournalErrors is of P10.3: journals that are not right.
func TestCheckJournalErrors(t *testing.T) {
	for _, c := range []struct {
		what   string
		l      []api.ControlEntry
		number int
		e      api.Errno
	}{
		{"61 entries", append(journal("0 a 0 dan order - p"), orders("a", 1, 60)...), 0, api.ErrLarge},
		{"a wrong entry", journal("1 a 0 dan order - p", "1 a 5 dan order - 7"), 1, api.ErrName},
		{"a wrong desk", journal("1 a 0 dan order - p", "2 zz 0 dan order - p"), 1, api.ErrMissing},
		{"a person who may not", journal("1 a 0 dan order - p", "2 a 1 dan order - p", "3 a 2 eve order - p"), 2, api.ErrAllowed},
		{"an earlier clock", journal("2 a 0 dan order - p", "1 a 5 dan order - p"), 1, api.ErrOrder},
		{"an earlier desk", journal("1 b 0 dan order - p", "1 a 5 dan order - p"), 1, api.ErrOrder},
		{"a desk with an earlier number", journal("1 a 0 dan order - p", "2 a 1 dan order - p", "2 a 0 dan order - p"), 2, api.ErrOrder},
		{"capitals behind small letters", journal("1 a 0 dan order - p", "1 B-3 0 dan order - p"), 1, api.ErrOrder},
		{"the same entry twice", journal("1 a 0 dan order - p", "1 a 0 dan order - p"), 1, api.ErrOrder},
		{"a beginning with 1", journal("1 a 1 dan order - p"), 0, api.ErrGap},
		{"a number left out", journal("1 a 0 dan order - p", "2 b 0 dan order - p", "3 a 2 dan order - p"), 2, api.ErrGap},
		{"a number twice", journal("1 a 0 dan order - p", "2 a 0 dan order - p"), 1, api.ErrGap},
		{"a number of the journal", journal("1 a 0 dan order - p", "2 b 1 dan order - p"), 1, api.ErrGap},
		{"a gap ahead of an error", journal("1 a 0 dan order - p", "2 a 2 dan order - p", "3 zz 0 dan order - p"), 1, api.ErrGap},
		{"an error ahead of a gap", journal("1 a 0 dan order - p", "2 zz 0 dan order - p", "3 a 2 dan order - p"), 1, api.ErrMissing},
	} {
		at(t, c.what, c.number, c.e)(control.CheckJournal(setup(), c.l))
		at(t, c.what+", slowly", c.number, c.e)(slowJournalError(setup(), c.l))
		ofJournal(t, c.what, c.l, c.e)
	}
}

// ofJournal wants all functions to return the error of a journal, and nothing beside it.
func ofJournal(t *testing.T, what string, l []api.ControlEntry, e api.Errno) {
	t.Helper()
	s, full := setup(), orders("a", 1, 60)
	other := journal("1 a 0 dan order - other")
	fails(t, "Next: "+what, e)(control.Next(s, l, "zz"))
	fails(t, "Joined: "+what, e)(control.Joined(s, l, append(full, full...)))
	fails(t, "Joined as the second one: "+what, e)(control.Joined(s, other, l))
	fails(t, "Lacks: "+what, e)(control.Lacks(s, l, append(full, full...)))
	fails(t, "Lacks as the second one: "+what, e)(control.Lacks(s, other, l))
	fails(t, "StateOf: "+what, e)(control.StateOf(s, l))
	fails(t, "TripOf: "+what, e)(control.TripOf(s, l, key("zz", 0)))
	fails(t, "TripOf of a trip: "+what, e)(control.TripOf(s, l, key("a", 0)))
	fails(t, "OpenTrips: "+what, e)(control.OpenTrips(s, l))
	fails(t, "Takings: "+what, e)(control.Takings(s, l))
	d := open(t, "a")
	d.Receive(other)
	fails(t, "Receive: "+what, e)(d.Receive(l))
	gives(t, "the journal of the desk: "+what, other)(d.Journal(), api.OK)
}

// spoiltJournal returns a journal in which something is changed now and then.
func spoiltJournal(r *rand.Rand, l []api.ControlEntry) []api.ControlEntry {
	l = slices.Clone(l)
	for i := range l {
		if r.Intn(20) == 0 {
			l[i] = spoiltEntry(r, l[i], 4)
		}
	}
	if len(l) > 1 && r.Intn(6) == 0 {
		i, j := r.Intn(len(l)), r.Intn(len(l))
		l[i], l[j] = l[j], l[i]
	}
	if len(l) > 1 && r.Intn(6) == 0 {
		i := r.Intn(len(l))
		l = slices.Delete(l, i, i+1)
	}
	if r.Intn(40) == 0 {
		l = slices.Repeat(l, 2)
	}
	return l
}

// TestCheckAnyJournal is of P10.3: random journals have the error that the definition gives.
func TestCheckAnyJournal(t *testing.T) {
	r := rand.New(rand.NewSource(102))
	seen := map[api.Errno]int{}
	for range 1500 {
		l := spoiltJournal(r, anyJournals(t, r, 20)[r.Intn(3)])
		i, e := control.CheckJournal(setup(), l)
		seen[e]++
		j, wanted := slowJournalError(setup(), l)
		if i != j || e != wanted {
			t.Errorf("%v: %d at %d, want %d at %d", l, e, i, wanted, j)
		}
	}
	for _, e := range []api.Errno{api.OK, api.ErrOrder, api.ErrGap, api.ErrMissing, api.ErrRange} {
		if seen[e] < 20 {
			t.Errorf("the error %d was seen %d times", e, seen[e])
		}
	}
}

// TestNext is of P10.3: the stamp that a desk writes next.
func TestNext(t *testing.T) {
	for desk, wanted := range map[string]api.ControlStamp{"a": {Clock: 5, Desk: "a", Number: 2}, "b": {Clock: 5, Desk: "b", Number: 2}, "B-3": {Clock: 5, Desk: "B-3"}} {
		gives(t, desk, wanted)(control.Next(setup(), example(), desk))
		gives(t, desk+" at first", api.ControlStamp{Clock: 1, Desk: desk})(control.Next(setup(), nil, desk))
	}
	gives(t, "behind clocks with gaps", api.ControlStamp{Clock: 100000, Desk: "b", Number: 1})(control.Next(setup(), journal("7 b 0 dan order - p", "99999 a 0 dan order - p"), "b"))
	gives(t, "behind 59 entries", api.ControlStamp{Clock: 60, Desk: "a", Number: 59})(control.Next(setup(), orders("a", 1, 59), "a"))
	gives(t, "behind 59 entries of another desk", api.ControlStamp{Clock: 60, Desk: "b"})(control.Next(setup(), orders("a", 1, 59), "b"))
}

// TestNextErrors is of P10.3: desks that are none, and journals that are full.
func TestNextErrors(t *testing.T) {
	full, last := orders("a", 1, 60), journal("100000 a 0 dan order - p")
	for _, desk := range []string{"", "A", "zz", "c", "dan"} {
		for _, l := range [][]api.ControlEntry{nil, example(), full, last} {
			fails(t, "the desk "+desk, api.ErrMissing)(control.Next(setup(), l, desk))
		}
	}
	for _, desk := range []string{"a", "b"} {
		fails(t, "60 entries", api.ErrFull)(control.Next(setup(), full, desk))
		fails(t, "the last clock", api.ErrFull)(control.Next(setup(), last, desk))
		fails(t, "60 entries and the last clock", api.ErrFull)(control.Next(setup(), orders("a", 99941, 60), desk))
	}
}

// TestJoined is of P10.3, and of P10.8: all entries of both, each one once.
func TestJoined(t *testing.T) {
	l := example()
	for _, c := range []struct{ a, b, wanted []api.ControlEntry }{
		{nil, nil, nil}, {l, nil, l}, {nil, l, l}, {l, l, l}, {l[:2], l, l}, {l, l[:1], l},
		{journal("1 a 0 dan order - p", "3 a 1 dan order - q"), journal("2 b 0 dan order - r", "3 b 1 dan order - s"), journal("1 a 0 dan order - p", "2 b 0 dan order - r", "3 a 1 dan order - q", "3 b 1 dan order - s")},
		{journal("1 a 0 dan order - p", "2 b 0 dan order - r"), journal("1 a 0 dan order - p", "2 a 1 dan order - q"), journal("1 a 0 dan order - p", "2 a 1 dan order - q", "2 b 0 dan order - r")},
		{journal("1 b 0 dan order - p"), journal("1 B-3 0 dan order - p"), journal("1 B-3 0 dan order - p", "1 b 0 dan order - p")},
	} {
		gives(t, "Joined", c.wanted)(control.Joined(setup(), c.a, c.b))
		gives(t, "Joined the other way", c.wanted)(control.Joined(setup(), c.b, c.a))
	}
	half := orders("b", 31, 30)
	gives(t, "60 entries", 60)(len(first(control.Joined(setup(), orders("a", 1, 30), half))), api.OK)
	gives(t, "60 entries of which both have some", 60)(len(first(control.Joined(setup(), orders("a", 1, 30), append(orders("a", 1, 30), half...)))), api.OK)
}

// TestJoinedErrors is of P10.3: entries that differ, and too many of them.
func TestJoinedErrors(t *testing.T) {
	a := journal("1 a 0 dan order - p", "2 a 1 dan assign a.0 x")
	for _, text := range []string{
		"3 a 1 dan assign a.0 x", "2 a 1 ida assign a.0 x", "2 a 1 dan cancel a.0 -", "2 a 1 dan assign a.1 x", "2 a 1 dan assign b.0 x", "2 a 1 dan assign a.0 y",
	} {
		b := journal("1 a 0 dan order - p", text)
		fails(t, "Joined with "+text, api.ErrClash)(control.Joined(setup(), a, b))
		fails(t, "Joined the other way with "+text, api.ErrClash)(control.Joined(setup(), b, a))
		fails(t, "Lacks with "+text, api.ErrClash)(control.Lacks(setup(), a, b))
		fails(t, "Lacks the other way with "+text, api.ErrClash)(control.Lacks(setup(), b, a))
	}
	many, more := orders("a", 1, 31), orders("b", 32, 30)
	fails(t, "61 entries", api.ErrLarge)(control.Joined(setup(), many, more))
	fails(t, "61 entries the other way", api.ErrLarge)(control.Joined(setup(), more, many))
	gives(t, "Lacks of what would be 61 entries", more)(control.Lacks(setup(), many, more))
	clash := append(journal("1 a 0 dan order - other"), more...)
	fails(t, "a clash and 61 entries", api.ErrClash)(control.Joined(setup(), many, clash))
	gives(t, "all 60", 60)(len(first(control.Joined(setup(), orders("a", 1, 60), orders("a", 1, 60)))), api.OK)
}

// TestLacks is of P10.3: what one journal has, and the other one has not.
func TestLacks(t *testing.T) {
	l := example()
	for _, c := range []struct{ a, b, wanted []api.ControlEntry }{
		{nil, nil, nil}, {nil, l, l}, {l, nil, nil}, {l, l, nil}, {l[:2], l, l[2:]}, {l, l[:2], nil}, {l[2:], l[:2], l[:2]},
		{journal("2 a 0 dan order - p"), journal("1 b 0 dan order - r", "2 a 0 dan order - p", "3 a 1 dan order - q"), journal("1 b 0 dan order - r", "3 a 1 dan order - q")},
	} {
		gives(t, "Lacks", c.wanted)(control.Lacks(setup(), c.a, c.b))
	}
	gives(t, "60 entries", 60)(len(first(control.Lacks(setup(), orders("b", 1, 60), orders("a", 1, 60)))), api.OK)
}

// TestJoinedEitherWay is of P10.8: journals of desks have one journal when they are joined, whichever are joined first, and its state is that of all entries.
func TestJoinedEitherWay(t *testing.T) {
	r := rand.New(rand.NewSource(103))
	join := func(a, b []api.ControlEntry) []api.ControlEntry {
		l, e := control.Joined(setup(), a, b)
		is(t, "Joined", e, api.OK)
		return l
	}
	for range 300 {
		l := anyJournals(t, r, 30)
		wanted := slowJoined(slowJoined(l[0], l[1]), l[2])
		for _, order := range [][3]int{{0, 1, 2}, {0, 2, 1}, {1, 0, 2}, {1, 2, 0}, {2, 0, 1}, {2, 1, 0}} {
			a, b, c := l[order[0]], l[order[1]], l[order[2]]
			gives(t, "the first two first", wanted)(join(join(a, b), c), api.OK)
			gives(t, "the last two first", wanted)(join(a, join(b, c)), api.OK)
			gives(t, "two", slowJoined(a, b))(join(a, b), api.OK)
			gives(t, "with itself", a)(join(a, a), api.OK)
			gives(t, "what is lacked", len(slowJoined(a, b))-len(a))(len(first(control.Lacks(setup(), a, b))), api.OK)
			gives(t, "with what is lacked", slowJoined(a, b))(slowJoined(a, first(control.Lacks(setup(), a, b))), api.OK)
		}
		at(t, "CheckJournal of the joined one", 0, api.OK)(control.CheckJournal(setup(), wanted))
		gives(t, "the state", slowStateOf(setup(), wanted))(control.StateOf(setup(), join(l[2], join(l[1], l[0]))))
	}
}

// TestByTheirRoles is of P10.10: no journal is right in which somebody writes what is not of the person's roles.
func TestByTheirRoles(t *testing.T) {
	for _, p := range setup().Persons {
		for kind := range kindWords {
			about := "-"
			if kind >= api.ControlAssign && kind <= api.ControlBill {
				about = "a.0"
			}
			l := append(orders("a", 1, 1), entry(fmt.Sprintf("2 a 1 %s %s %s %s", p.Name, kindWords[kind], about, rightTexts[kind][0])))
			if slowMay(setup(), p.Name, kind) {
				at(t, fmt.Sprint(l), 0, api.OK)(control.CheckJournal(setup(), l))
			} else {
				at(t, fmt.Sprint(l), 1, api.ErrAllowed)(control.CheckJournal(setup(), l))
			}
		}
	}
}
