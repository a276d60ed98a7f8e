package control_test

import (
	"fmt"
	"math/rand"
	"reflect"
	"regexp"
	"slices"
	"strconv"
	"strings"
	"testing"

	"fiacre/account"
	"fiacre/api"
	"fiacre/control"
	"fiacre/duty"
	"fiacre/found"
	"fiacre/meter"
	"fiacre/rank"
	"fiacre/tariff"
)

// gives returns a function that takes a result and its error, and compares the result with what is wanted. A nil list and an empty one are the same.
func gives(t *testing.T, what string, wanted any) func(got any, e api.Errno) {
	t.Helper()
	return func(got any, e api.Errno) {
		t.Helper()
		if fmt.Sprint(got) != fmt.Sprint(wanted) || e != api.OK {
			t.Errorf("%s: %v, error %d; want %v", what, got, e, wanted)
		}
	}
}

// fails returns a function that takes a result and its error, and wants this error, and nothing beside it.
func fails(t *testing.T, what string, wanted api.Errno) func(got any, e api.Errno) {
	t.Helper()
	return func(got any, e api.Errno) {
		t.Helper()
		if !isNothing(got) || e != wanted {
			t.Errorf("%s: %v, error %d; want the error %d and nothing beside it", what, got, e, wanted)
		}
	}
}

// at returns a function that takes a number and an error, and wants these.
func at(t *testing.T, what string, number int, wanted api.Errno) func(got int, e api.Errno) {
	t.Helper()
	return func(got int, e api.Errno) {
		t.Helper()
		if got != number || e != wanted {
			t.Errorf("%s: the error %d at %d; want %d at %d", what, e, got, wanted, number)
		}
	}
}

func is(t *testing.T, what string, got, wanted api.Errno) {
	t.Helper()
	if got != wanted {
		t.Errorf("%s: the error %d; want %d", what, got, wanted)
	}
}

func isNothing(x any) bool {
	v := reflect.ValueOf(x)
	if v.Kind() == reflect.Slice {
		return v.Len() == 0
	}
	if v.Kind() != reflect.Struct {
		return v.IsZero()
	}
	for i := range v.NumField() {
		if !isNothing(v.Field(i).Interface()) {
			return false
		}
	}
	return true
}

func first[T any](x T, _ api.Errno) T { return x }

const (
	// city is the tariff of the document's examples.
	city = "tariff city 1000 10\nzone town\nzone port\nholiday 7\nrule day 0 100000 town,port 01234567 21600 79200 350 5 8\nrule night 0 100000 town,port 01234567 79200 21600 450 6 8\nextra bag 100\nfixed town port 4000\n"

	// log is the text of a log with just one finished trip, of 350 cents.
	log = "1000 0 36000 o1 p10 t1 o3 o0"
	// dear is one of 400 cents.
	dear = "1000 0 36000 o1 p1000 t100 o3 o0"
)

// kindWords is the words of the kinds of entries, and rightTexts has right texts of each kind.
var (
	kindWords  = []string{"order", "assign", "cancel", "carry", "bill", "rank", "duty", "money", "item", "event"}
	rightTexts = [][]string{
		{"smith", "jones", "A-0123456789"},
		{"car-7", "car-8", "x"},
		{"-"},
		{log, dear, "1000 0 36000 o1 p10 t1 o3 o0 o1"},
		{"350", "400", "0", "999999999"},
		{"arrive 20 0 a", "call 20 1 -"},
		{"ann 16000 20000"},
		{"13 paid vouchers=-200 cash=200", "0 n"},
		{"hat 10 ann color=red kind=hat", "hat 10 ann"},
		{"hat 20 stored ann office"},
	}
)

// setup is the desks a and b, and one more, and a person for each role; ida has all roles, jon has none.
func setup() api.ControlSetup {
	t, _, _ := tariff.Parse(city)
	return api.ControlSetup{
		Tariff: t,
		Desks:  []string{"a", "b", "B-3"},
		Persons: []api.ControlPerson{
			{Name: "dan", Roles: []int{api.ControlDispatcher}}, {Name: "eve", Roles: []int{api.ControlDriver}}, {Name: "flo", Roles: []int{api.ControlCashier}},
			{Name: "gus", Roles: []int{api.ControlManager}}, {Name: "hal", Roles: []int{api.ControlClerk}},
			{Name: "ida", Roles: []int{api.ControlDispatcher, api.ControlDriver, api.ControlCashier, api.ControlManager, api.ControlClerk}}, {Name: "jon"},
		},
	}
}

// wrongSetup is a setup with an error.
func wrongSetup() api.ControlSetup {
	s := setup()
	s.Desks = []string{"a", "7"}
	return s
}

// entry is the entry with a text, which must have the form.
func entry(text string) api.ControlEntry {
	x, ok := slowParse(text)
	if !ok {
		panic("no text of an entry: " + text)
	}
	return x
}

// journal is the entries with texts.
func journal(texts ...string) []api.ControlEntry {
	var l []api.ControlEntry
	for _, text := range texts {
		l = append(l, entry(text))
	}
	return l
}

// example is the journal of the document's first example.
func example() []api.ControlEntry {
	return journal("1 a 0 dan order - smith", "2 a 1 dan assign a.0 car-7", "3 b 0 eve carry a.0 "+log, "4 b 1 flo bill a.0 350")
}

func key(desk string, number int) api.ControlKey {
	return api.ControlKey{Desk: desk, Number: number}
}

// orders is a right journal of so many orders of a desk, from a clock on.
func orders(desk string, clock, many int) []api.ControlEntry {
	var l []api.ControlEntry
	for i := range many {
		l = append(l, entry(fmt.Sprintf("%d %s %d dan order - p%d", clock+i, desk, i, i)))
	}
	return l
}

var (
	nameForm   = regexp.MustCompile(`\A[A-Za-z][A-Za-z0-9-]{0,11}\z`)
	numberForm = regexp.MustCompile(`\A(0|-?[1-9][0-9]*)\z`)
	entryForm  = regexp.MustCompile(`\A(0|-?[1-9][0-9]{0,5}) ([^ \n]+) (0|-?[1-9][0-9]{0,5}) ([^ \n]+) (order|assign|cancel|carry|bill|rank|duty|money|item|event) (-|[^ \n.]+\.(?:0|-?[1-9][0-9]{0,5})) ([^\n]*)\z`)
)

// slowParse is the definition of the text of an entry.
func slowParse(text string) (api.ControlEntry, bool) {
	found := entryForm.FindStringSubmatch(text)
	if found == nil {
		return api.ControlEntry{}, false
	}
	var x api.ControlEntry
	x.Stamp.Clock, _ = strconv.Atoi(found[1])
	x.Stamp.Desk = found[2]
	x.Stamp.Number, _ = strconv.Atoi(found[3])
	x.Draft.Person = found[4]
	x.Draft.Kind = slices.Index(kindWords, found[5])
	if found[6] != "-" {
		desk, number, _ := strings.Cut(found[6], ".")
		x.Draft.Key.Desk = desk
		x.Draft.Key.Number, _ = strconv.Atoi(number)
	}
	x.Draft.Text = found[7]
	return x, true
}

// slowFormat is the text of an entry of a kind.
func slowFormat(x api.ControlEntry) string {
	about := fmt.Sprintf("%s.%d", x.Draft.Key.Desk, x.Draft.Key.Number)
	if about == ".0" {
		about = "-"
	}
	return fmt.Sprintf("%d %s %d %s %s %s %s", x.Stamp.Clock, x.Stamp.Desk, x.Stamp.Number, x.Draft.Person, kindWords[x.Draft.Kind], about, x.Draft.Text)
}

// slowSum is the definition of the check sum.
func slowSum(text string) uint64 {
	if text == "" {
		return 1
	}
	last := len(text) - 1
	return (257*slowSum(text[:last]) + uint64(text[last]) + 1) % 998244353
}

// slowText is the text of a journal, each sum being made anew.
func slowText(l []api.ControlEntry) string {
	text := ""
	for _, x := range l {
		text += slowFormat(x) + " "
		text += fmt.Sprint(slowSum(text)) + "\n"
	}
	return text
}

func slowMay(s api.ControlSetup, person string, kind int) bool {
	role := []int{api.ControlDispatcher, api.ControlDispatcher, api.ControlDispatcher, api.ControlDriver, api.ControlCashier, api.ControlDispatcher, api.ControlManager, api.ControlCashier, api.ControlClerk, api.ControlClerk}[kind]
	for _, p := range s.Persons {
		if p.Name == person && slices.Contains(p.Roles, role) {
			return true
		}
	}
	return false
}

// slowTextError is the first error of a text of a kind.
func slowTextError(s api.ControlSetup, kind int, text string) api.Errno {
	switch {
	case text == "" || strings.Contains(text, "\n"):
		return api.ErrSyntax
	case len(text) > 400:
		return api.ErrLarge
	}
	var e api.Errno
	switch kind {
	case api.ControlOrder, api.ControlAssign:
		if !nameForm.MatchString(text) {
			return api.ErrName
		}
	case api.ControlCancel:
		if text != "-" {
			return api.ErrSyntax
		}
	case api.ControlCarry:
		l, e := meter.ParseLog(text)
		if e != api.OK {
			return e
		}
		if _, e := meter.CheckLog(s.Tariff, l); e != api.OK {
			return e
		}
		if trips, _ := meter.TripsOf(s.Tariff, l); len(trips) != 1 {
			return api.ErrShape
		}
	case api.ControlBill:
		if !numberForm.MatchString(text) || len(strings.TrimPrefix(text, "-")) > 9 {
			return api.ErrSyntax
		}
		if text[0] == '-' {
			return api.ErrRange
		}
	case api.ControlRank:
		_, e = rank.ParseEvent(text)
	case api.ControlDuty:
		_, e = duty.ParseRecord(text)
	case api.ControlMoney:
		_, e = account.ParseEntry(text)
	case api.ControlItem:
		_, e = found.ParseItem(text)
	case api.ControlEvent:
		_, e = found.ParseEvent(text)
	}
	return e
}

// slowEntryError is the first error of an entry of a right setup.
func slowEntryError(s api.ControlSetup, x api.ControlEntry) api.Errno {
	d := x.Draft
	isKind := d.Kind >= 0 && d.Kind < 10
	about := slices.Contains([]int{api.ControlAssign, api.ControlCancel, api.ControlCarry, api.ControlBill}, d.Kind)
	isPerson := slices.ContainsFunc(s.Persons, func(p api.ControlPerson) bool { return p.Name == d.Person })
	for _, c := range []struct {
		is bool
		e  api.Errno
	}{
		{!slices.Contains(s.Desks, x.Stamp.Desk), api.ErrMissing},
		{x.Stamp.Clock < 1 || x.Stamp.Clock > 100000 || x.Stamp.Number < 0 || x.Stamp.Number > 59, api.ErrRange},
		{!isPerson, api.ErrMissing},
		{!isKind, api.ErrKind},
		{isKind && !slowMay(s, d.Person, d.Kind), api.ErrAllowed},
		{about && !slices.Contains(s.Desks, d.Key.Desk), api.ErrMissing},
		{about && (d.Key.Number < 0 || d.Key.Number > 59), api.ErrRange},
		{!about && (d.Key.Desk != "" || d.Key.Number != 0), api.ErrForm},
	} {
		if c.is {
			return c.e
		}
	}
	return slowTextError(s, d.Kind, d.Text)
}

// slowBefore is the definition of the order of stamps.
func slowBefore(a, b api.ControlStamp) bool {
	if a.Clock != b.Clock {
		return a.Clock < b.Clock
	}
	if a.Desk != b.Desk {
		return a.Desk < b.Desk
	}
	return a.Number < b.Number
}

// slowJournalError is the first error of a journal of a right setup, and the number of the entry.
func slowJournalError(s api.ControlSetup, l []api.ControlEntry) (int, api.Errno) {
	if len(l) > 60 {
		return 0, api.ErrLarge
	}
	next := map[string]int{}
	for i, x := range l {
		switch e := slowEntryError(s, x); {
		case e != api.OK:
			return i, e
		case i > 0 && !slowBefore(l[i-1].Stamp, x.Stamp):
			return i, api.ErrOrder
		case x.Stamp.Number != next[x.Stamp.Desk]:
			return i, api.ErrGap
		}
		next[x.Stamp.Desk]++
	}
	return 0, api.OK
}

// slowJoined is all entries of both journals, each one once, by their stamps.
func slowJoined(a, b []api.ControlEntry) []api.ControlEntry {
	all := slices.Clone(a)
	for _, x := range b {
		if !slices.Contains(a, x) {
			all = append(all, x)
		}
	}
	slices.SortFunc(all, func(x, y api.ControlEntry) int {
		switch {
		case slowBefore(x.Stamp, y.Stamp):
			return -1
		case slowBefore(y.Stamp, x.Stamp):
			return 1
		}
		return 0
	})
	return all
}

// slowState is the trips so far, by their keys and in their order, and what became of the entries.
type slowState struct {
	trips   map[api.ControlKey]api.ControlTrip
	list    []api.ControlKey
	refused []api.ControlRefused
	counts  [10]int
}

// slowStateOf is the definition of the state that follows from a right journal.
func slowStateOf(s api.ControlSetup, l []api.ControlEntry) api.ControlState {
	x := slowState{trips: map[api.ControlKey]api.ControlTrip{}}
	for i, e := range l {
		if code := x.apply(s, e); code != api.OK {
			x.refused = append(x.refused, api.ControlRefused{Entry: i, Error: code})
		} else {
			x.counts[e.Draft.Kind]++
		}
	}
	state := api.ControlState{Refused: x.refused, Counts: x.counts}
	for _, k := range x.list {
		state.Trips = append(state.Trips, x.trips[k])
	}
	return state
}

func (x *slowState) apply(s api.ControlSetup, e api.ControlEntry) api.Errno {
	d := e.Draft
	trip, known := x.trips[d.Key]
	is := func(states ...int) bool { return slices.Contains(states, trip.Status) }
	if d.Kind >= api.ControlAssign && d.Kind <= api.ControlBill && !known {
		return api.ErrMissing
	}
	switch d.Kind {
	case api.ControlOrder:
		k := key(e.Stamp.Desk, e.Stamp.Number)
		x.trips[k] = api.ControlTrip{Key: k, Passenger: d.Text}
		x.list = append(x.list, k)
		return api.OK
	case api.ControlAssign:
		if is(api.ControlCarried, api.ControlBilled, api.ControlCancelled) {
			return api.ErrState
		}
		for k, other := range x.trips {
			if k != d.Key && other.Status == api.ControlAssigned && other.Car == d.Text {
				return api.ErrBusy
			}
		}
		trip.Status, trip.Car = api.ControlAssigned, d.Text
	case api.ControlCancel:
		if is(api.ControlCarried, api.ControlBilled, api.ControlCancelled) {
			return api.ErrState
		}
		trip.Status, trip.Car = api.ControlCancelled, ""
	case api.ControlCarry:
		if !is(api.ControlAssigned) {
			return api.ErrState
		}
		l, _ := meter.ParseLog(d.Text)
		trip.Status, trip.Fare = api.ControlCarried, first(meter.TripsOf(s.Tariff, l))[0].Fare
	case api.ControlBill:
		cents, _ := strconv.Atoi(d.Text)
		switch {
		case is(api.ControlBilled):
			return api.ErrDouble
		case !is(api.ControlCarried):
			return api.ErrState
		case cents != trip.Fare:
			return api.ErrClash
		}
		trip.Status = api.ControlBilled
	default:
		return api.OK
	}
	x.trips[d.Key] = trip
	return api.OK
}

// anyDraft returns a random right draft.
func anyDraft(r *rand.Rand) api.ControlDraft {
	kind := r.Intn(api.ControlKinds)
	x := api.ControlDraft{Person: "ida", Kind: kind, Text: rightTexts[kind][r.Intn(len(rightTexts[kind]))]}
	if r.Intn(2) == 0 {
		x.Person = []string{"dan", "dan", "dan", "eve", "flo", "dan", "gus", "flo", "hal", "hal"}[kind]
	}
	if kind >= api.ControlAssign && kind <= api.ControlBill {
		x.Key = key([]string{"a", "b", "B-3"}[r.Intn(3)], r.Intn(5))
	}
	return x
}

// nextDraft returns a right draft, often what is next to do for a trip of a desk.
func nextDraft(r *rand.Rand, d *control.Desk) api.ControlDraft {
	trips := first(d.State()).Trips
	if len(trips) == 0 || r.Intn(3) == 0 {
		return anyDraft(r)
	}
	trip := trips[r.Intn(len(trips))]
	x := api.ControlDraft{Person: "ida", Kind: api.ControlBill, Key: trip.Key, Text: fmt.Sprint(trip.Fare)}
	switch trip.Status {
	case api.ControlOrdered:
		x.Kind, x.Text = api.ControlAssign, rightTexts[api.ControlAssign][r.Intn(3)]
	case api.ControlAssigned:
		x.Kind, x.Text = api.ControlCarry, rightTexts[api.ControlCarry][r.Intn(3)]
	}
	return x
}

// open returns a desk at work.
func open(t *testing.T, name string) *control.Desk {
	t.Helper()
	d, e := control.OpenDesk(setup(), name)
	if d == nil || e != api.OK {
		t.Fatalf("no desk %s: error %d", name, e)
	}
	return d
}

// anyJournals returns the journals of three desks that wrote at random, with now and then a link.
func anyJournals(t *testing.T, r *rand.Rand, many int) [3][]api.ControlEntry {
	t.Helper()
	desks := []*control.Desk{open(t, "a"), open(t, "b"), open(t, "B-3")}
	for range r.Intn(many + 1) {
		if i, j := r.Intn(3), r.Intn(3); r.Intn(4) == 0 {
			desks[i].Receive(desks[j].Journal())
		} else {
			desks[i].Write(nextDraft(r, desks[i]))
		}
	}
	return [3][]api.ControlEntry{desks[0].Journal(), desks[1].Journal(), desks[2].Journal()}
}
