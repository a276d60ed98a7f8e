package control_test

import (
	"fmt"
	"math/rand"
	"slices"
	"testing"

	"fiacre/api"
	"fiacre/control"
)

// writes lets a desk write drafts, given as texts of entries from the person on, and wants them to be right.
func writes(t *testing.T, d *control.Desk, texts ...string) {
	t.Helper()
	for _, text := range texts {
		_, e := d.Write(entry("1 a 0 " + text).Draft)
		is(t, text, e, api.OK)
	}
}

// has wants a desk to have a journal, and the state that follows from it.
func has(t *testing.T, what string, d *control.Desk, l []api.ControlEntry) {
	t.Helper()
	if got := d.Journal(); !slices.Equal(got, l) {
		t.Errorf("%s: the journal is %v, want %v", what, got, l)
	}
	gives(t, what, slowStateOf(setup(), l))(d.State())
}

// TestOpenDesk is of P10.6: desks that the setup has, and those that it has not.
func TestOpenDesk(t *testing.T) {
	for _, name := range setup().Desks {
		has(t, name, open(t, name), nil)
		x, e := open(t, name).Write(entry("1 a 0 dan order - smith").Draft)
		gives(t, name, fmt.Sprintf("1 %s 0 dan order - smith", name))(slowFormat(x), e)
	}
	for _, name := range []string{"", "A", "zz", "7", "dan", "B", "a "} {
		if d, e := control.OpenDesk(setup(), name); d != nil || e != api.ErrMissing {
			t.Errorf("the desk %q: %v, error %d", name, d, e)
		}
	}
}

// TestWrite is of P10.6: the document's first example, and entries that are refused in the state.
func TestWrite(t *testing.T) {
	d, l := open(t, "a"), []api.ControlEntry(nil)
	for i, text := range []string{"dan order - smith", "dan assign a.0 car-7", "eve carry a.0 " + log, "flo bill a.0 360", "flo bill a.0 350", "flo bill a.0 350", "dan cancel b.7 -", "hal item - hat 10 ann"} {
		wanted := entry(fmt.Sprintf("%d a %d %s", i+1, i, text))
		got, e := d.Write(wanted.Draft)
		gives(t, text, wanted)(got, e)
		l = append(l, wanted)
		has(t, text, d, l)
	}
	gives(t, "the refused ones", fmt.Sprintf("a.0 smith/car-7 3 350%s%s%s", refused(api.ErrClash, 3), refused(api.ErrDouble, 5), refused(api.ErrMissing, 6)))(told(first(d.State())), api.OK)
	behind := open(t, "b")
	behind.Receive(journal("1 a 0 dan order - p", "500 a 1 dan order - q"))
	writes(t, behind, "dan order - r")
	has(t, "behind a journal", behind, journal("1 a 0 dan order - p", "500 a 1 dan order - q", "501 b 0 dan order - r"))
}

// TestWriteErrors is of P10.6: drafts that are not written, beside which nothing changes.
func TestWriteErrors(t *testing.T) {
	for name, c := range map[string]struct {
		l    []api.ControlEntry
		full bool
	}{"few": {example(), false}, "sixty": {orders("a", 1, 60), true}, "the last clock": {journal("100000 b 0 dan order - p"), true}} {
		d := open(t, "a")
		d.Receive(c.l)
		for text, e := range map[string]api.Errno{
			"nobody carry zz.99 7": api.ErrMissing, "dan carry zz.99 7": api.ErrAllowed, "dan assign zz.99 7": api.ErrMissing, "dan assign a.60 7": api.ErrRange, "dan order a.0 7": api.ErrForm, "dan order - 7": api.ErrName, "dan order - ": api.ErrSyntax, "flo bill a.0 -1": api.ErrRange, "eve carry a.0 x": api.ErrSyntax,
		} {
			if c.full {
				e = api.ErrFull
			}
			fails(t, name+": "+text, e)(d.Write(entry("1 a 0 " + text).Draft))
		}
		noKind := api.ControlDraft{Person: "ida", Kind: 10, Text: "x"}
		if c.full {
			fails(t, name+": no kind", api.ErrFull)(d.Write(noKind))
			fails(t, name+": what is right", api.ErrFull)(d.Write(example()[0].Draft))
		} else {
			fails(t, name+": no kind", api.ErrKind)(d.Write(noKind))
		}
		has(t, name, d, c.l)
	}
	d := open(t, "b")
	d.Receive(orders("a", 1, 59))
	writes(t, d, "dan order - last")
	fails(t, "the 61st", api.ErrFull)(d.Write(example()[0].Draft))
	gives(t, "the last one", "60 b 0 dan order - last")(slowFormat(d.Journal()[59]), api.OK)
	d = open(t, "b")
	d.Receive(journal("99999 a 0 dan order - p"))
	writes(t, d, "dan order - last")
	fails(t, "behind the last clock", api.ErrFull)(d.Write(example()[0].Draft))
}

// TestReceive is of P10.6: how many entries were new.
func TestReceive(t *testing.T) {
	d := open(t, "b")
	for _, c := range []struct {
		l   []api.ControlEntry
		new int
	}{{nil, 0}, {example()[:2], 2}, {example()[:1], 0}, {example(), 2}, {example(), 0}} {
		gives(t, fmt.Sprint(len(c.l)), c.new)(d.Receive(c.l))
	}
	has(t, "all", d, example())
	gives(t, "an earlier one", 1)(d.Receive(journal("1 B-3 0 dan order - p")))
	has(t, "an earlier one", d, slowJoined(example(), journal("1 B-3 0 dan order - p")))
	writes(t, d, "dan order - q")
	gives(t, "what was written behind it", "5 b 2 dan order - q")(slowFormat(d.Journal()[5]), api.OK)
}

// TestReceiveErrors is of P10.6: journals that are not joined, beside which nothing changes.
func TestReceiveErrors(t *testing.T) {
	d := open(t, "a")
	writes(t, d, "dan order - smith", "dan order - jones")
	l := d.Journal()
	fails(t, "another first entry", api.ErrClash)(d.Receive(journal("1 a 0 dan order - kim", "3 b 0 dan order - p")))
	fails(t, "another clock", api.ErrClash)(d.Receive(journal("1 b 0 dan order - p", "2 a 0 dan order - smith")))
	fails(t, "61 entries", api.ErrLarge)(d.Receive(orders("b", 1, 59)))
	fails(t, "a clash of 61 entries", api.ErrClash)(d.Receive(append(journal("1 a 0 dan order - kim"), orders("b", 2, 59)...)))
	fails(t, "a wrong journal that clashes", api.ErrGap)(d.Receive(journal("1 a 0 dan order - kim", "3 b 1 dan order - p")))
	has(t, "behind errors", d, l)
	gives(t, "58 more", 58)(d.Receive(orders("b", 1, 58)))
	has(t, "sixty", d, slowJoined(l, orders("b", 1, 58)))
}

// TestNilDesk is of P10.6, and of R5: a nil desk.
func TestNilDesk(t *testing.T) {
	var d *control.Desk
	fails(t, "Write", api.ErrNil)(d.Write(example()[0].Draft))
	fails(t, "Write of nothing", api.ErrNil)(d.Write(api.ControlDraft{}))
	fails(t, "Receive", api.ErrNil)(d.Receive(example()))
	fails(t, "Receive of a wrong journal", api.ErrNil)(d.Receive(orders("a", 0, 61)))
	fails(t, "Journal", api.OK)(d.Journal(), api.OK)
	fails(t, "State", api.ErrNil)(d.State())
}

// TestDesksOwn is of P10.12: what desks write is a right journal always, its entries stay in it, and behind a link both have the same journal.
func TestDesksOwn(t *testing.T) {
	r := rand.New(rand.NewSource(109))
	for range 150 {
		desks := []*control.Desk{open(t, "a"), open(t, "b"), open(t, "B-3")}
		for range 40 {
			i, j := r.Intn(3), r.Intn(3)
			before := desks[i].Journal()
			if r.Intn(4) == 0 {
				_, e := desks[i].Receive(desks[j].Journal())
				is(t, "Receive", e, api.OK)
				_, e = desks[j].Receive(desks[i].Journal())
				is(t, "Receive", e, api.OK)
				has(t, "a link", desks[i], desks[j].Journal())
			} else {
				desks[i].Write(spoiltEntry(r, api.ControlEntry{Draft: nextDraft(r, desks[i])}, 20).Draft)
			}
			at(t, "CheckJournal", 0, api.OK)(control.CheckJournal(setup(), desks[i].Journal()))
			if lost, e := control.Lacks(setup(), desks[i].Journal(), before); len(lost) > 0 || e != api.OK {
				t.Errorf("%v were lost, error %d", lost, e)
			}
		}
	}
}

// TestSetupIsNotKept is of R3: a desk goes on with the setup that it was opened with, whatever becomes of it.
func TestSetupIsNotKept(t *testing.T) {
	s := setup()
	d, _ := control.OpenDesk(s, "a")
	s.Tariff.Zones[0], s.Tariff.Holidays[0], s.Tariff.Extras[0].Name, s.Tariff.Fixed[0].From = "", -1, "", -1
	s.Tariff.Rules[0].Zones[0], s.Tariff.Rules[0].Days[0], s.Tariff.Rules[1].Name = -1, -1, ""
	s.Desks[0], s.Persons[1].Name = "", ""
	s.Persons[0].Roles[0] = api.ControlClerk
	writes(t, d, "dan order - smith", "dan assign a.0 car-7", "eve carry a.0 "+log, "flo bill a.0 350")
	gives(t, "Receive", 1)(d.Receive(journal("1 b 0 dan order - p")))
	gives(t, "the state", "a.0 smith/car-7 3 350, b.0 p/ 0 0")(told(first(d.State())), api.OK)
}
