package found_test

import (
	"fmt"
	"math"
	"math/rand"
	"slices"
	"testing"

	"fiacre/api"
	"fiacre/found"
)

// chainOf is a right chain of so many events: the item is stored, and moved to and fro.
func chainOf(many int) []api.FoundEvent {
	l := []api.FoundEvent{event(20, api.FoundStored, "ann", "office")}
	for len(l) < many {
		l = append(l, event(20+len(l), api.FoundMoved, "office", "office"))
	}
	return l
}

// with returns an event of which something is changed.
func with(x api.FoundEvent, change func(x *api.FoundEvent)) api.FoundEvent {
	change(&x)
	return x
}

// A wrongChain is a chain of hat with its first error, and the number of the event that has it.
type wrongChain struct {
	what   string
	l      []api.FoundEvent
	number int
	e      api.Errno
}

// wrongForms is chains of which an event is none whatever was before.
func wrongForms() []wrongChain {
	moved := event(40, api.FoundMoved, "depot", "office")
	return []wrongChain{
		{"too many", chainOf(31), 0, api.ErrLarge},
		{"too many ahead of their errors", make([]api.FoundEvent, 31), 0, api.ErrLarge},
		{"another item", kept(with(moved, func(x *api.FoundEvent) { x.Item = "cap" })), 2, api.ErrMissing},
		{"an item with a capital letter", kept(with(moved, func(x *api.FoundEvent) { x.Item = "Hat" })), 2, api.ErrMissing},
		{"no item", kept(with(moved, func(x *api.FoundEvent) { x.Item = "" })), 2, api.ErrMissing},
		{"a day below 0", kept(event(-1, api.FoundMoved, "depot", "office")), 2, api.ErrRange},
		{"a day behind all dates", kept(event(100001, api.FoundMoved, "depot", "office")), 2, api.ErrRange},
		{"the least day", kept(event(math.MinInt, api.FoundMoved, "depot", "office")), 2, api.ErrRange},
		{"the greatest day", kept(event(math.MaxInt, api.FoundSold, "depot", "office")), 2, api.ErrRange},
		{"a kind below all", kept(event(40, -1, "depot", "office")), 2, api.ErrKind},
		{"a kind above all", kept(event(40, api.FoundSold+1, "depot", "office")), 2, api.ErrKind},
		{"the greatest kind", kept(event(40, math.MaxInt, "depot", "office")), 2, api.ErrKind},
		{"from nobody", kept(event(40, api.FoundMoved, "", "office")), 2, api.ErrName},
		{"to nobody", kept(event(40, api.FoundMoved, "depot", "")), 2, api.ErrName},
		{"to a long name", kept(event(40, api.FoundMoved, "depot", "abcdefghijklm")), 2, api.ErrName},
		{"from two", kept(event(40, api.FoundMoved, "depot a", "office")), 2, api.ErrName},
		{"the item ahead of the day", kept(api.FoundEvent{Day: -1}), 2, api.ErrMissing},
		{"the day ahead of the kind", kept(event(-1, 77, "depot", "office")), 2, api.ErrRange},
		{"the kind ahead of names", kept(event(40, 77, "", "")), 2, api.ErrKind},
		{"names ahead of the order", kept(event(29, api.FoundMoved, "depot", "")), 2, api.ErrName},
		{"event by event", []api.FoundEvent{event(20, api.FoundMoved, "ann", "office"), {}}, 0, api.ErrState},
	}
}

// wrongOrders is chains of which an event cannot be the next one.
func wrongOrders() []wrongChain {
	returned := kept(event(40, api.FoundReturned, "depot", "cid"))
	return []wrongChain{
		{"ahead of the item's day", []api.FoundEvent{event(9, api.FoundStored, "ann", "office")}, 0, api.ErrOrder},
		{"ahead of the event before", kept(event(29, api.FoundMoved, "depot", "office")), 2, api.ErrOrder},
		{"stored again", kept(event(40, api.FoundStored, "depot", "office")), 2, api.ErrState},
		{"stored twice by the finder", append(chainOf(1), event(40, api.FoundStored, "ann", "office")), 1, api.ErrState},
		{"moved at first", []api.FoundEvent{event(20, api.FoundMoved, "ann", "office")}, 0, api.ErrState},
		{"returned at first", []api.FoundEvent{event(20, api.FoundReturned, "ann", "cid")}, 0, api.ErrState},
		{"taken at first", []api.FoundEvent{event(20, api.FoundTaken, "ann", "ann")}, 0, api.ErrState},
		{"sold at first", []api.FoundEvent{event(900, api.FoundSold, "ann", "bob")}, 0, api.ErrState},
		{"moved when returned", append(returned, event(40, api.FoundMoved, "cid", "office")), 3, api.ErrState},
		{"returned when returned", append(returned, event(50, api.FoundReturned, "cid", "dan")), 3, api.ErrState},
		{"stored when returned", append(returned, event(50, api.FoundStored, "cid", "office")), 3, api.ErrState},
		{"sold when taken", kept(event(205, api.FoundTaken, "depot", "ann"), event(300, api.FoundSold, "ann", "bob")), 3, api.ErrState},
		{"moved when sold", kept(event(300, api.FoundSold, "depot", "bob"), event(300, api.FoundMoved, "bob", "bob")), 3, api.ErrState},
		{"from somebody else", kept(event(205, api.FoundReturned, "office", "cid")), 2, api.ErrClash},
		{"stored by somebody else", []api.FoundEvent{event(20, api.FoundStored, "bob", "office")}, 0, api.ErrClash},
		{"from the finder who has it no more", kept(event(40, api.FoundMoved, "ann", "office")), 2, api.ErrClash},
		{"taken by somebody else", kept(event(205, api.FoundTaken, "depot", "bob")), 2, api.ErrAllowed},
		{"taken too early", kept(event(200, api.FoundTaken, "depot", "ann")), 2, api.ErrLate},
		{"taken too late", kept(event(231, api.FoundTaken, "depot", "ann")), 2, api.ErrLate},
		{"sold too early", kept(event(230, api.FoundSold, "depot", "bob")), 2, api.ErrLate},
		{"sold when it is the owner's", kept(event(40, api.FoundSold, "depot", "bob")), 2, api.ErrLate},
		{"the order ahead of the state", kept(event(29, api.FoundStored, "depot", "office")), 2, api.ErrOrder},
		{"the state ahead of the holder", kept(event(40, api.FoundStored, "bob", "office")), 2, api.ErrState},
		{"the holder ahead of the taker", kept(event(205, api.FoundTaken, "office", "bob")), 2, api.ErrClash},
		{"the taker ahead of the deadline", kept(event(40, api.FoundTaken, "depot", "bob")), 2, api.ErrAllowed},
	}
}

func wrongChains() []wrongChain { return append(wrongForms(), wrongOrders()...) }

// rightChains is right chains of hat.
func rightChains() [][]api.FoundEvent {
	return [][]api.FoundEvent{
		nil, chainOf(1), kept(), chainOf(30),
		{event(10, api.FoundStored, "ann", "ann"), event(10, api.FoundMoved, "ann", "ann"), event(10, api.FoundReturned, "ann", "ann")},
		{event(100000, api.FoundStored, "ann", "office")},
		kept(event(30, api.FoundReturned, "depot", "cid")),
		kept(event(205, api.FoundReturned, "depot", "cid")),
		kept(event(100000, api.FoundReturned, "depot", "cid")),
		kept(event(201, api.FoundTaken, "depot", "ann")),
		kept(event(230, api.FoundTaken, "depot", "ann")),
		kept(event(231, api.FoundSold, "depot", "bob")),
		kept(event(100000, api.FoundSold, "depot", "ann")),
		kept(event(30, api.FoundMoved, "depot", "depot"), event(300, api.FoundMoved, "depot", "depot")),
		{event(20, api.FoundStored, "ann", "office"), event(190, api.FoundMoved, "office", "depot"), event(201, api.FoundTaken, "depot", "ann")},
	}
}

// TestCheckChain is of P9.4: right chains, each error, which comes ahead of which, and its number.
func TestCheckChain(t *testing.T) {
	for _, l := range rightChains() {
		at(t, fmt.Sprint(l), 0, api.OK)(found.CheckChain(hat(), l))
	}
	for _, x := range wrongChains() {
		at(t, x.what, x.number, x.e)(found.CheckChain(hat(), x.l))
		fails(t, "HolderAt: "+x.what, x.e)(found.HolderAt(hat(), x.l, -1))
		fails(t, "StateAt: "+x.what, x.e)(found.StateAt(hat(), x.l, -1))
		fails(t, "RightAt: "+x.what, x.e)(found.RightAt(hat(), x.l, -1))
	}
	for _, x := range wrongItems() {
		at(t, x.what, 0, x.e)(found.CheckChain(x.item, make([]api.FoundEvent, 31)))
		fails(t, "HolderAt: "+x.what, x.e)(found.HolderAt(x.item, make([]api.FoundEvent, 31), -1))
		fails(t, "StateAt: "+x.what, x.e)(found.StateAt(x.item, make([]api.FoundEvent, 31), -1))
		fails(t, "RightAt: "+x.what, x.e)(found.RightAt(x.item, make([]api.FoundEvent, 31), -1))
	}
	for _, day := range []int{math.MinInt, -1, 0, 9, 100001, math.MaxInt} {
		fails(t, fmt.Sprint("HolderAt ", day), api.ErrRange)(found.HolderAt(hat(), kept(), day))
		fails(t, fmt.Sprint("StateAt ", day), api.ErrRange)(found.StateAt(hat(), kept(), day))
		fails(t, fmt.Sprint("RightAt ", day), api.ErrRange)(found.RightAt(hat(), kept(), day))
	}
}

// A shown is how it stands with hat at the end of a day.
type shown struct {
	day    int
	holder string
	state  int
	right  int
}

// TestDays is of P9.4: holder, state and right on the days at which they change, and the days beside.
func TestDays(t *testing.T) {
	for _, x := range []struct {
		what string
		l    []api.FoundEvent
		days []shown
	}{
		{"hat", kept(), []shown{
			{10, "ann", api.FoundOut, api.FoundOwners}, {15, "ann", api.FoundOut, api.FoundOwners}, {19, "ann", api.FoundOut, api.FoundOwners},
			{20, "office", api.FoundKeptHere, api.FoundOwners}, {29, "office", api.FoundKeptHere, api.FoundOwners}, {30, "depot", api.FoundKeptHere, api.FoundOwners},
			{200, "depot", api.FoundKeptHere, api.FoundOwners}, {201, "depot", api.FoundKeptHere, api.FoundFindersRight}, {230, "depot", api.FoundKeptHere, api.FoundFindersRight},
			{231, "depot", api.FoundKeptHere, api.FoundOffice}, {100000, "depot", api.FoundKeptHere, api.FoundOffice},
		}},
		{"hat, not stored", nil, []shown{{10, "ann", api.FoundOut, api.FoundOwners}, {191, "ann", api.FoundOut, api.FoundOwners}, {100000, "ann", api.FoundOut, api.FoundOwners}}},
		{"hat, returned", kept(event(205, api.FoundReturned, "depot", "cid")), []shown{{204, "depot", api.FoundKeptHere, api.FoundFindersRight}, {205, "cid", api.FoundGiven, api.FoundNobody}, {900, "cid", api.FoundGiven, api.FoundNobody}}},
		{"hat, taken", kept(event(205, api.FoundTaken, "depot", "ann")), []shown{{204, "depot", api.FoundKeptHere, api.FoundFindersRight}, {205, "ann", api.FoundFinders, api.FoundNobody}, {100000, "ann", api.FoundFinders, api.FoundNobody}}},
		{"hat, sold", kept(event(240, api.FoundSold, "depot", "bob")), []shown{{239, "depot", api.FoundKeptHere, api.FoundOffice}, {240, "bob", api.FoundGone, api.FoundNobody}, {241, "bob", api.FoundGone, api.FoundNobody}}},
		{"hat, stored late", []api.FoundEvent{event(500, api.FoundStored, "ann", "office")}, []shown{{499, "ann", api.FoundOut, api.FoundOwners}, {680, "office", api.FoundKeptHere, api.FoundOwners}, {681, "office", api.FoundKeptHere, api.FoundFindersRight}, {711, "office", api.FoundKeptHere, api.FoundOffice}}},
		{"hat, all on a day", []api.FoundEvent{event(10, api.FoundStored, "ann", "office"), event(10, api.FoundMoved, "office", "depot"), event(10, api.FoundReturned, "depot", "cid")}, []shown{{10, "cid", api.FoundGiven, api.FoundNobody}}},
	} {
		for _, s := range x.days {
			what := fmt.Sprint(x.what, " on ", s.day)
			gives(t, what, s.holder)(found.HolderAt(hat(), x.l, s.day))
			gives(t, what, s.state)(found.StateAt(hat(), x.l, s.day))
			gives(t, what, s.right)(found.RightAt(hat(), x.l, s.day))
		}
	}
}

// TestAnyChain is of P9.4: random chains, event by event, and how it stands day by day.
func TestAnyChain(t *testing.T) {
	r := rand.New(rand.NewSource(106))
	var ends [5]int
	for range 3000 {
		x, l := anyChain(r, 12)
		what := fmt.Sprint(x, l)
		at(t, what, 0, api.OK)(found.CheckChain(x, l))
		next := spoiltEvent(r, anyEvent(r, x, l))
		if e := slowError(x, l, next); e == api.OK {
			at(t, fmt.Sprint(what, next), 0, api.OK)(found.CheckChain(x, append(l, next)))
		} else {
			at(t, fmt.Sprint(what, next), len(l), e)(found.CheckChain(x, append(l, next)))
		}
		for range 10 {
			day := x.Day + r.Intn(1000)
			up := slowDays(l, day)
			what := fmt.Sprint(what, " on ", day)
			gives(t, what, slowHolder(x, up))(found.HolderAt(x, l, day))
			gives(t, what, slowState(up))(found.StateAt(x, l, day))
			gives(t, what, slowRight(up, day))(found.RightAt(x, l, day))
		}
		ends[slowState(l)]++
	}
	if slices.Min(ends[:]) < 20 {
		t.Errorf("too few chains of some kind: %v", ends)
	}
}

// spoiltEvent returns an event of which something is changed now and then.
func spoiltEvent(r *rand.Rand, x api.FoundEvent) api.FoundEvent {
	x.Item, x.From, x.To = oddlyNamed(r, x.Item), oddlyNamed(r, x.From), oddlyNamed(r, x.To)
	x.Day, x.Kind = oddly(r, x.Day), oddly(r, x.Kind)
	return x
}

// TestBeginnings is of P9.9: a beginning of a right chain is right, and holder, state and right of a day do not hang on later events.
func TestBeginnings(t *testing.T) {
	r := rand.New(rand.NewSource(107))
	for range 2000 {
		x, l := anyChain(r, 10)
		for i := range l {
			what := fmt.Sprint(x, l[:i])
			at(t, what, 0, api.OK)(found.CheckChain(x, l[:i]))
			day := l[i].Day - 1
			if day < x.Day {
				continue
			}
			gives(t, what, first(found.HolderAt(x, l, day)))(found.HolderAt(x, l[:i], day))
			gives(t, what, first(found.StateAt(x, l, day)))(found.StateAt(x, l[:i], day))
			gives(t, what, first(found.RightAt(x, l, day)))(found.RightAt(x, l[:i], day))
		}
	}
}

// TestRightsGo is of P9.9 and P9.10: rights go from one to the next, and never back; an item that is done is nobody's from that day on.
func TestRightsGo(t *testing.T) {
	r := rand.New(rand.NewSource(108))
	var passed [4]int
	for range 300 {
		x, l := anyChain(r, 10)
		before := api.FoundOwners
		for day := x.Day; day < x.Day+1500; day++ {
			right, e := found.RightAt(x, l, day)
			if e != api.OK {
				t.Fatalf("%v %v on %d: error %d", x, l, day, e)
			}
			if before == api.FoundNobody && right != api.FoundNobody || right != api.FoundNobody && right < before {
				t.Errorf("%v %v on %d: the right goes from %d to %d", x, l, day, before, right)
			}
			state := first(found.StateAt(x, l, day))
			if done := state == api.FoundGiven || state == api.FoundFinders || state == api.FoundGone; done != (right == api.FoundNobody) {
				t.Errorf("%v %v on %d: the state %d, the right %d", x, l, day, state, right)
			}
			before = right
			passed[right]++
		}
	}
	if slices.Min(passed[:]) < 300 {
		t.Errorf("too few days with some right: %v", passed)
	}
}
