package control_test

import (
	"fmt"
	"math/rand"
	"slices"
	"strings"
	"sync"
	"testing"

	"fiacre/api"
	"fiacre/control"
)

// spoiltSetup returns a setup of which something is changed now and then.
func spoiltSetup(r *rand.Rand) api.ControlSetup {
	s := setup()
	switch r.Intn(16) {
	case 0:
		s.Tariff.Unit = odd(r)
	case 1:
		s.Tariff.Rules[1].Zones = []int{odd(r)}
	case 2:
		s.Tariff.Rules = nil
	case 3:
		s.Desks[r.Intn(3)] = []string{"", "a", "b", "\xff"}[r.Intn(4)]
	case 4:
		s.Desks = slices.Repeat(s.Desks, r.Intn(4))
	case 5:
		s.Persons[r.Intn(7)].Name = []string{"", "dan", "ida", "a\nb"}[r.Intn(4)]
	case 6:
		s.Persons[r.Intn(7)].Roles = []int{odd(r), odd(r)}
	case 7:
		s.Persons = slices.Repeat(s.Persons, r.Intn(3))
	}
	return s
}

// zero returns a function that takes a result and its error, and wants nothing beside an error.
func zero(t *testing.T) func(got any, e api.Errno) {
	t.Helper()
	return func(got any, e api.Errno) {
		t.Helper()
		if e < api.OK || e > api.ErrBalance || e != api.OK && !isNothing(got) {
			t.Errorf("beside the error %d: %v", e, got)
		}
	}
}

// TestNoPanic is of P1: with whatever arguments every function ends, and beside an error all other results are zero values.
func TestNoPanic(t *testing.T) {
	r := rand.New(rand.NewSource(111))
	ends := zero(t)
	names := []string{"a", "b", "dan", "ida", "", "\xff\n", "zz"}
	for range 1500 {
		s, both := spoiltSetup(r), anyJournals(t, r, 6)
		l, other := spoiltJournal(r, both[0]), spoiltJournal(r, both[1])
		x := spoiltEntry(r, api.ControlEntry{Draft: anyDraft(r)}, 4)
		name := names[r.Intn(len(names))]
		ends(control.May(s, name, odd(r)))
		control.CheckSetup(s)
		control.CheckText(s, odd(r), x.Draft.Text)
		control.CheckEntry(s, x)
		control.CheckJournal(s, l)
		ends(control.Next(s, l, name))
		ends(control.Joined(s, l, other))
		ends(control.Lacks(s, l, other))
		ends(control.StateOf(s, l))
		ends(control.TripOf(s, l, key(name, odd(r))))
		ends(control.OpenTrips(s, l))
		ends(control.Takings(s, l))
		control.FormatEntry(x)
		text := scribbled(r, control.FormatJournal(l)+"1 a 0 dan order - smith 5\n")
		ends(control.ParseEntry(text[:r.Intn(len(text))]))
		rest, bytes, e := control.Recover(s, text)
		ends(rest, e)
		ends(bytes, e)
		ends(control.Day(s, scribbled(r, script(anyLine(r), anyLine(r)))))
		d, e := control.OpenDesk(s, name)
		if (d == nil) != (e != api.OK) {
			t.Errorf("OpenDesk: %v, error %d", d, e)
		}
		ends(d.Receive(l))
		ends(d.Write(x.Draft))
		ends(d.Receive(other))
		ends(d.State())
		d.Journal()
	}
}

// roomy returns a list of the same elements with room behind it.
func roomy[T any](list []T) []T { return append(make([]T, 0, len(list)+9), list...) }

// behind returns a list, and what stands in the room behind it.
func behind[T any](list []T) string { return fmt.Sprint(list[:cap(list)]) }

// spoil changes all that a list has, and what is in the room behind it.
func spoil[T any](list []T) { clear(list[:cap(list)]) }

// TestMemory is of R3: arguments stay as they are, and results share no memory with them, or with each other.
func TestMemory(t *testing.T) {
	s := setup()
	s.Desks, s.Persons = roomy(s.Desks), roomy(s.Persons)
	s.Persons[0].Roles, s.Tariff.Rules = roomy(s.Persons[0].Roles), roomy(s.Tariff.Rules)
	a, b := roomy(append(example()[:2], entry("4 a 2 dan assign a.1 x"))), roomy(example())
	b = append(b[:2], journal("3 b 0 dan assign a.5 y", "4 b 1 dan order - p")...)
	all := func() string {
		return behind(s.Desks) + behind(s.Persons) + behind(s.Persons[0].Roles) + behind(s.Tariff.Rules) + behind(a) + behind(b)
	}
	before := all()
	spoil(first(control.Joined(s, a, b)))
	spoil(first(control.Joined(s, a, nil)))
	spoil(first(control.Joined(s, nil, b)))
	spoil(first(control.Joined(s, a, a)))
	spoil(first(control.Lacks(s, a, b)))
	spoil(first(control.Lacks(s, nil, b)))
	spoil(first(control.OpenTrips(s, a)))
	x, _ := control.StateOf(s, b)
	later := fmt.Sprint(x.Refused)
	spoil(x.Trips)
	gives(t, "the refused ones", later)(x.Refused, api.OK)
	spoil(x.Refused)
	l, _, _ := control.Recover(s, control.FormatJournal(a))
	spoil(l)
	control.CheckSetup(s)
	control.CheckJournal(s, a)
	control.Next(s, a, "b")
	control.TripOf(s, a, key("a", 0))
	control.Takings(s, b)
	spoil(first(control.Day(s, "write a dan order - smith\nlink a b\ncrash a 5\n")))
	d, _ := control.OpenDesk(s, "a")
	d.Receive(a)
	d.Receive(b)
	d.Write(example()[0].Draft)
	if after := all(); after != before {
		t.Errorf("an argument was changed from %s to %s", before, after)
	}
}

// TestDeskMemory is of R3: a desk keeps its own journal, whatever becomes of what it was given, or gave.
func TestDeskMemory(t *testing.T) {
	for _, l := range [][]api.ControlEntry{nil, example()[:1], example()} {
		d := open(t, "a")
		given := roomy(l)
		d.Receive(given)
		writes(t, d, "dan order - p", "dan order - q", "dan order - r")
		wanted := d.Journal()
		spoil(given)
		spoil(d.Journal())
		spoil(first(d.State()).Trips)
		x, _ := d.State()
		spoil(x.Refused)
		has(t, fmt.Sprint(len(l)), d, wanted)
		early := d.Journal()
		writes(t, d, "dan order - s")
		gives(t, "a journal that was given away", wanted)(early, api.OK)
		other := open(t, "b")
		other.Receive(d.Journal())
		writes(t, other, "dan order - t")
		has(t, "beside another desk", d, append(wanted, entry(fmt.Sprintf("%d a %d dan order - s", wanted[len(wanted)-1].Stamp.Clock+1, wanted[len(wanted)-1].Stamp.Number+1))))
	}
}

// TestNothing is of R5: a nil list and an empty one are the same.
func TestNothing(t *testing.T) {
	for _, l := range [][]api.ControlEntry{nil, {}} {
		at(t, "CheckJournal", 0, api.OK)(control.CheckJournal(setup(), l))
		gives(t, "Next", "{1 a 0}")(control.Next(setup(), l, "a"))
		gives(t, "Joined", "[]")(control.Joined(setup(), l, []api.ControlEntry{}))
		gives(t, "Lacks", "[]")(control.Lacks(setup(), l, nil))
		gives(t, "StateOf", "{[] [] [0 0 0 0 0 0 0 0 0 0]}")(control.StateOf(setup(), l))
		gives(t, "OpenTrips", "[]")(control.OpenTrips(setup(), l))
		gives(t, "Takings", 0)(control.Takings(setup(), l))
		gives(t, "Receive", 0)(open(t, "a").Receive(l))
	}
	for _, roles := range [][]int{nil, {}} {
		s := setup()
		s.Persons = []api.ControlPerson{{Name: "dan", Roles: roles}}
		at(t, "CheckSetup", 0, api.OK)(control.CheckSetup(s))
		gives(t, "May", false)(control.May(s, "dan", api.ControlOrder))
	}
	s := setup()
	s.Persons = []api.ControlPerson{}
	at(t, "CheckSetup", 0, api.OK)(control.CheckSetup(s))
}

// TestLarge is of P1: also long texts and lists are soon done with.
func TestLarge(t *testing.T) {
	many := 1 << 20
	s := setup()
	s.Desks = make([]string, many)
	at(t, "many desks", 0, api.ErrLarge)(control.CheckSetup(s))
	s = setup()
	s.Persons = make([]api.ControlPerson, many)
	at(t, "many persons", 0, api.ErrLarge)(control.CheckSetup(s))
	s = setup()
	s.Persons[0].Roles = make([]int, many)
	at(t, "many roles", 0, api.ErrOrder)(control.CheckSetup(s))
	l := make([]api.ControlEntry, many)
	at(t, "many entries", 0, api.ErrLarge)(control.CheckJournal(setup(), l))
	fails(t, "Joined of many", api.ErrLarge)(control.Joined(setup(), nil, l))
	fails(t, "Lacks of many", api.ErrLarge)(control.Lacks(setup(), l, nil))
	fails(t, "Receive of many", api.ErrLarge)(open(t, "a").Receive(l))
	is(t, "a long text", control.CheckText(setup(), api.ControlOrder, strings.Repeat("a", many)), api.ErrLarge)
	gives(t, "a text of many words", many)(len(first(control.ParseEntry("1 a 0 dan order - "+strings.Repeat(" ", many))).Draft.Text), api.OK)
	fails(t, "a text of many keys", api.ErrSyntax)(control.ParseEntry("1 a 0 dan order " + strings.Repeat("a.", many) + "0 x"))
	if text := control.FormatJournal(l); strings.Count(text, "\n") != many || !strings.HasPrefix(text, slowText(l[:9])) {
		t.Errorf("the text of many entries has %d lines", strings.Count(text, "\n"))
	}
	recovers(t, "many lines", strings.Repeat("\n", many), nil)
	recovers(t, "many words", strings.Repeat("a ", many), nil)
	recovers(t, "a long line behind others", slowText(example())+strings.Repeat("a ", many)+"\n", example())
	fails(t, "a long script", api.ErrLarge)(control.Day(setup(), strings.Repeat("takings a\n", many)))
}

// TestAtOnce is of R4: results are the same, whatever else goes on.
func TestAtOnce(t *testing.T) {
	s := setup()
	all := func() string {
		d, _ := control.OpenDesk(s, "a")
		d.Receive(example())
		d.Write(example()[0].Draft)
		return fmt.Sprint(first(d.State()), first(control.StateOf(s, example())), first(control.Day(s, "write a dan order - smith\nlink a b\ntrip b a.0\n")), control.FormatJournal(d.Journal()))
	}
	wanted := all()
	var calls sync.WaitGroup
	for range 20 {
		calls.Go(func() {
			if got := all(); got != wanted {
				t.Errorf("first %s, and then %s", wanted, got)
			}
		})
	}
	calls.Wait()
}
