package control_test

import (
	"fmt"
	"math"
	"slices"
	"testing"

	"fiacre/api"
	"fiacre/control"
	"fiacre/tariff"
)

// persons is so many persons with roles.
func persons(many int, roles ...int) []api.ControlPerson {
	var l []api.ControlPerson
	for i := range many {
		l = append(l, api.ControlPerson{Name: fmt.Sprint("p", i), Roles: slices.Clone(roles)})
	}
	return l
}

// TestCheckSetup is of P10.1: setups that are right.
func TestCheckSetup(t *testing.T) {
	at(t, "the setup of the examples", 0, api.OK)(control.CheckSetup(setup()))
	for what, change := range map[string]func(s *api.ControlSetup){
		"one desk":                  func(s *api.ControlSetup) { s.Desks = []string{"z"} },
		"four desks":                func(s *api.ControlSetup) { s.Desks = []string{"z", "A-0123456789", "a", "Z"} },
		"no persons":                func(s *api.ControlSetup) { s.Persons = nil },
		"twelve persons":            func(s *api.ControlSetup) { s.Persons = persons(12, 0, 4) },
		"persons named as desks":    func(s *api.ControlSetup) { s.Persons = []api.ControlPerson{{Name: "a"}, {Name: "A"}} },
		"a person with every role":  func(s *api.ControlSetup) { s.Persons = persons(1, 0, 1, 2, 3, 4) },
		"a person without any role": func(s *api.ControlSetup) { s.Persons = persons(1) },
	} {
		s := setup()
		change(&s)
		at(t, what, 0, api.OK)(control.CheckSetup(s))
	}
}

// wrongSetups is setups with errors, each with its number and error, that of the later ones of several errors being another one.
var wrongSetups = []struct {
	what   string
	change func(s *api.ControlSetup)
	number int
	e      api.Errno
}{
	{"a tariff without a name", func(s *api.ControlSetup) { s.Tariff.Name = "" }, 0, api.ErrName},
	{"a wrong rule", func(s *api.ControlSetup) { s.Tariff.Rules[1].Name = "7"; s.Desks = nil }, 0, api.ErrName},
	{"no desks", func(s *api.ControlSetup) { s.Desks = nil; s.Persons = persons(13) }, 0, api.ErrShape},
	{"no desks, but a list", func(s *api.ControlSetup) { s.Desks = []string{} }, 0, api.ErrShape},
	{"five desks", func(s *api.ControlSetup) { s.Desks = []string{"a", "7", "c", "d", "a"} }, 0, api.ErrLarge},
	{"a desk without a name", func(s *api.ControlSetup) { s.Desks = []string{"a", "b", ""} }, 2, api.ErrName},
	{"a desk with a name that is none", func(s *api.ControlSetup) { s.Desks = []string{"a", "b_", "a"} }, 1, api.ErrName},
	{"a long name of a desk", func(s *api.ControlSetup) { s.Desks = []string{"abcdefghijklm"} }, 0, api.ErrName},
	{"two desks of a name", func(s *api.ControlSetup) { s.Desks = []string{"a", "b", "a"}; s.Persons = persons(13) }, 2, api.ErrExists},
	{"two desks of a name ahead of a wrong one", func(s *api.ControlSetup) { s.Desks = []string{"a", "b", "b", "7"} }, 2, api.ErrExists},
	{"two desks of a name that is none", func(s *api.ControlSetup) { s.Desks = []string{"7", "7"} }, 0, api.ErrName},
	{"thirteen persons", func(s *api.ControlSetup) { s.Persons = persons(13, 9); s.Persons[0].Name = "" }, 0, api.ErrLarge},
	{"a person without a name", func(s *api.ControlSetup) { s.Persons[3].Name = "" }, 3, api.ErrName},
	{"a wrong name ahead of a wrong role", func(s *api.ControlSetup) { s.Persons[3] = api.ControlPerson{Name: "7", Roles: []int{9}} }, 3, api.ErrName},
	{"two persons of a name", func(s *api.ControlSetup) { s.Persons[4].Name = "dan" }, 4, api.ErrExists},
	{"two persons of a name, with a wrong role", func(s *api.ControlSetup) { s.Persons[4] = api.ControlPerson{Name: "dan", Roles: []int{9}} }, 4, api.ErrExists},
	{"a role below all", func(s *api.ControlSetup) { s.Persons[2].Roles = []int{-1} }, 2, api.ErrKind},
	{"a role above all", func(s *api.ControlSetup) { s.Persons[2].Roles = []int{0, 5} }, 2, api.ErrKind},
	{"a role far above all", func(s *api.ControlSetup) { s.Persons[0].Roles = []int{math.MaxInt} }, 0, api.ErrKind},
	{"a role twice", func(s *api.ControlSetup) { s.Persons[2].Roles = []int{1, 1} }, 2, api.ErrOrder},
	{"roles that do not ascend", func(s *api.ControlSetup) { s.Persons[2].Roles = []int{0, 3, 2} }, 2, api.ErrOrder},
	{"a role twice ahead of one that is none", func(s *api.ControlSetup) { s.Persons[2].Roles = []int{1, 1, 9} }, 2, api.ErrOrder},
	{"a role that is none ahead of one twice", func(s *api.ControlSetup) { s.Persons[2].Roles = []int{9, 1, 1} }, 2, api.ErrKind},
	{"a role that is none, and less than the one before", func(s *api.ControlSetup) { s.Persons[2].Roles = []int{1, -1} }, 2, api.ErrKind},
	{"a wrong role ahead of a wrong name", func(s *api.ControlSetup) { s.Persons[2].Roles = []int{9}; s.Persons[3].Name = "" }, 2, api.ErrKind},
	{"a wrong desk ahead of a wrong person", func(s *api.ControlSetup) { s.Desks[1] = ""; s.Persons[0].Name = "dan!" }, 1, api.ErrName},
}

// TestCheckSetupErrors is of P10.1: setups that are not right.
func TestCheckSetupErrors(t *testing.T) {
	for _, c := range wrongSetups {
		s := setup()
		c.change(&s)
		at(t, c.what, c.number, c.e)(control.CheckSetup(s))
		if _, e := tariff.CheckTariff(s.Tariff); e != api.OK && e != c.e {
			t.Errorf("%s: the error of the tariff is %d", c.what, e)
		}
	}
}

// TestOfSetup is of P10.1 to P10.7: the error of a setup is ahead of all others, whatever it is.
func TestOfSetup(t *testing.T) {
	for _, c := range wrongSetups {
		s := setup()
		c.change(&s)
		l := journal("0 zz 99 nobody order x.1 7")
		fails(t, "May", c.e)(control.May(s, "nobody", 99))
		is(t, "CheckText", control.CheckText(s, 99, ""), c.e)
		is(t, "CheckEntry", control.CheckEntry(s, l[0]), c.e)
		at(t, "CheckJournal", 0, c.e)(control.CheckJournal(s, append(orders("a", 1, 1), l...)))
		fails(t, "Next", c.e)(control.Next(s, l, "zz"))
		fails(t, "Joined", c.e)(control.Joined(s, l, l))
		fails(t, "Lacks", c.e)(control.Lacks(s, l, l))
		fails(t, "StateOf", c.e)(control.StateOf(s, l))
		fails(t, "TripOf", c.e)(control.TripOf(s, l, key("a", 0)))
		fails(t, "OpenTrips", c.e)(control.OpenTrips(s, l))
		fails(t, "Takings", c.e)(control.Takings(s, l))
		if l, many, e := control.Recover(s, control.FormatJournal(example())); len(l) != 0 || many != 0 || e != c.e {
			t.Errorf("Recover: %v, %d, error %d; want %d", l, many, e, c.e)
		}
		if d, e := control.OpenDesk(s, "zz"); d != nil || e != c.e {
			t.Errorf("OpenDesk: %v, error %d; want %d", d, e, c.e)
		}
		fails(t, "Day", c.e)(control.Day(s, "no line"))
		fails(t, "Day without lines", c.e)(control.Day(s, ""))
	}
}

// TestMay is of P10.1: who may write what.
func TestMay(t *testing.T) {
	for _, p := range setup().Persons {
		for kind := range api.ControlKinds {
			gives(t, fmt.Sprint(p.Name, kind), slowMay(setup(), p.Name, kind))(control.May(setup(), p.Name, kind))
		}
	}
	for person, wanted := range map[string]string{
		"dan": "[true true true false false true false false false false]", "eve": "[false false false true false false false false false false]",
		"flo": "[false false false false true false false true false false]", "gus": "[false false false false false false true false false false]",
		"hal": "[false false false false false false false false true true]", "ida": "[true true true true true true true true true true]",
		"jon": "[false false false false false false false false false false]",
	} {
		var all []bool
		for kind := range api.ControlKinds {
			all = append(all, first(control.May(setup(), person, kind)))
		}
		if got := fmt.Sprint(all); got != wanted {
			t.Errorf("%s may write %s, want %s", person, got, wanted)
		}
	}
}

// TestMayErrors is of P10.1: persons and kinds that are none.
func TestMayErrors(t *testing.T) {
	for _, person := range []string{"", "Dan", "da", "dann", "a", "7"} {
		for _, kind := range []int{0, -1, 10} {
			fails(t, person, api.ErrMissing)(control.May(setup(), person, kind))
		}
	}
	for _, kind := range []int{math.MinInt, -1, 10, 11, math.MaxInt} {
		fails(t, fmt.Sprint(kind), api.ErrKind)(control.May(setup(), "ida", kind))
		fails(t, fmt.Sprint(kind), api.ErrKind)(control.May(setup(), "jon", kind))
	}
}
