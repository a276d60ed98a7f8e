package found_test

import (
	"fmt"
	"math"
	"math/rand"
	"testing"

	"fiacre/api"
	"fiacre/found"
)

// TestFormat is of P9.6: texts of items and events, whatever they are.
func TestFormat(t *testing.T) {
	for wanted, x := range map[string]api.FoundItem{
		"hat 10 ann color=red kind=hat size=big": hat(),
		"hat 0 ann":                              item("hat", 0, "ann"),
		" 0 ":                                    {},
		"a b -9223372036854775808 \xff =c= = b=": item("a b", math.MinInt, "\xff", "", "c=", "", "", "b", ""),
	} {
		if s := found.FormatItem(x); s != wanted {
			t.Errorf("the text of %v is %q, want %q", x, s, wanted)
		}
	}
	for wanted, x := range map[string]api.FoundEvent{
		"hat 20 stored ann office":                 kept()[0],
		"hat 30 moved office depot":                kept()[1],
		"hat 205 returned depot cid":               event(205, api.FoundReturned, "depot", "cid"),
		"hat 205 taken depot ann":                  event(205, api.FoundTaken, "depot", "ann"),
		"hat 300 sold depot bob":                   event(300, api.FoundSold, "depot", "bob"),
		" 0 stored  ":                              {},
		"a b 9223372036854775807 stored \xff a\nb": {Item: "a b", Day: math.MaxInt, From: "\xff", To: "a\nb"},
	} {
		if s := found.FormatEvent(x); s != wanted {
			t.Errorf("the text of %v is %q, want %q", x, s, wanted)
		}
	}
	for _, kind := range []int{math.MinInt, -1, 5, 6, math.MaxInt} {
		if s := found.FormatEvent(event(20, kind, "ann", "office")); s != "" {
			t.Errorf("the text of an event of the kind %d is %q", kind, s)
		}
	}
}

// TestParseItem is of P9.6: texts of items.
func TestParseItem(t *testing.T) {
	for s, wanted := range map[string]api.FoundItem{
		"hat 10 ann color=red kind=hat size=big": hat(),
		"hat 0 ann":                              item("hat", 0, "ann"),
		"A-0123456789 100000 a0 Z=a a=Z":         item("A-0123456789", 100000, "a0", "Z", "a", "a", "Z"),
		"h 5 a A=v B=v a=v b=v c=v d=v e=v f=v":  {Name: "h", Day: 5, Finder: "a", Marks: eight()},
	} {
		gives(t, s, wanted)(found.ParseItem(s))
	}
	if x := read(t, "hat 10 ann"); len(x.Marks) != 0 {
		t.Errorf("marks of a text without any: %v", x.Marks)
	}
}

// TestParseItemErrors is of P9.6: texts that have not the form, and those of items that are not right.
func TestParseItemErrors(t *testing.T) {
	for _, s := range []string{
		"", " ", "  ", "hat", "hat ", "hat 10", "hat 10 ", " 10 ann", " hat 10 ann", "hat  10 ann", "hat 10  ann", "hat 10 ann ", "hat 10 ann  a=b", "hat 10 ann a=b ",
		"10 hat ann", "hat ann 10", "hat ten ann", "hat 010 ann", "hat +10 ann", "hat -0 ann", "hat 00 ann", "hat 1.0 ann", "hat 1e1 ann", "hat - ann", "hat 10\n ann", "hat\t10 ann",
		"hat 1000000000 ann", "hat -1000000000 ann", "hat 99999999999999999999 ann",
		"hat 10 ann a", "hat 10 ann =", "hat 10 ann a=", "hat 10 ann =b", "hat 10 ann a==b", "hat 10 ann a=b=", "hat 10 ann a=b=c", "hat 10 ann =a=b", "hat 10 ann ==", "hat 10 ann a=b c", "hat 10 ann a=b c=",
		"hat 10 ann a =b", "hat 10 ann a= b",
		"7 -1 a=b a", "hat 10 ann 7=v b",
	} {
		fails(t, fmt.Sprintf("%q", s), api.ErrSyntax)(found.ParseItem(s))
	}
	for s, e := range map[string]api.Errno{
		"7 10 ann": api.ErrName, "hat 10 7": api.ErrName, "abcdefghijklm 10 ann": api.ErrName, "hat 10 abcdefghijklm": api.ErrName, "h\tat 10 ann": api.ErrName, "hat 10 a=b": api.ErrName, "hat 10 ann\n": api.ErrName,
		"7 100001 ann": api.ErrName, "hat -1 7": api.ErrName,
		"hat 100001 ann": api.ErrRange, "hat -1 ann": api.ErrRange, "hat 999999999 ann": api.ErrRange, "hat -999999999 ann": api.ErrRange, "hat -1 ann b=v a=v": api.ErrRange,
		"hat 10 ann 7=v": api.ErrName, "hat 10 ann a=7": api.ErrName, "hat 10 ann a=abcdefghijklm": api.ErrName, "hat 10 ann a=b\n": api.ErrName,
		"hat 10 ann b=v a=v": api.ErrOrder, "hat 10 ann a=v a=w": api.ErrOrder, "hat 10 ann a=v B=v": api.ErrOrder,
		"h 5 a A=v B=v a=v b=v c=v d=v e=v f=v 7=v": api.ErrLarge,
	} {
		fails(t, fmt.Sprintf("%q", s), e)(found.ParseItem(s))
	}
}

// TestParseEvent is of P9.6: texts of events, of which the chain is not asked.
func TestParseEvent(t *testing.T) {
	for s, wanted := range map[string]api.FoundEvent{
		"hat 20 stored ann office":                           kept()[0],
		"hat 30 moved office depot":                          kept()[1],
		"hat 205 returned depot cid":                         event(205, api.FoundReturned, "depot", "cid"),
		"hat 205 taken depot ann":                            event(205, api.FoundTaken, "depot", "ann"),
		"hat 300 sold depot bob":                             event(300, api.FoundSold, "depot", "bob"),
		"hat 0 taken ann ann":                                event(0, api.FoundTaken, "ann", "ann"),
		"A-0123456789 100000 sold A-0123456789 abcdefghijkl": {Item: "A-0123456789", Day: 100000, Kind: api.FoundSold, From: "A-0123456789", To: "abcdefghijkl"},
		"stored 20 stored stored stored":                     {Item: "stored", Day: 20, From: "stored", To: "stored"},
	} {
		gives(t, s, wanted)(found.ParseEvent(s))
	}
}

// TestParseEventErrors is of P9.6: texts that have not the form, and those of events that have no names, or no day.
func TestParseEventErrors(t *testing.T) {
	for _, s := range []string{
		"", " ", "    ", "hat", "hat 20 stored ann", "hat 20 stored ann office more", "hat 20 stored ann ", " 20 stored ann office", "hat 20 stored  office", "hat  20 stored ann", " hat 20 stored ann office", "hat 20 stored ann office ",
		"hat stored 20 ann office", "hat ten stored ann office", "hat 020 stored ann office", "hat +20 stored ann office", "hat -0 stored ann office", "hat 1000000000 stored ann office", "hat -1000000000 stored ann office", "hat 99999999999999999999 stored ann office",
		"hat 20 Stored ann office", "hat 20 STORED ann office", "hat 20 store ann office", "hat 20 storeds ann office", "hat 20 0 ann office", "hat 20 lost ann office", "hat 20 stored\n ann office",
		"7 -1 lost ann office", "7 ten stored 7 7", "7 -1 stored 7",
	} {
		fails(t, fmt.Sprintf("%q", s), api.ErrSyntax)(found.ParseEvent(s))
	}
	for s, e := range map[string]api.Errno{
		"7 20 stored ann office": api.ErrName, "hat 20 stored 7 office": api.ErrName, "hat 20 stored ann 7": api.ErrName, "abcdefghijklm 20 stored ann office": api.ErrName, "hat 20 stored ann abcdefghijklm": api.ErrName, "hat 20 stored abcdefghijklm office": api.ErrName,
		"hat 20 stored ann office\n": api.ErrName, "h\tat 20 stored ann office": api.ErrName,
		"7 -1 stored ann office": api.ErrName, "hat 100001 stored 7 office": api.ErrName, "hat -1 sold ann 7": api.ErrName,
		"hat -1 stored ann office": api.ErrRange, "hat 100001 stored ann office": api.ErrRange, "hat 999999999 moved ann office": api.ErrRange, "hat -999999999 moved ann office": api.ErrRange,
	} {
		fails(t, fmt.Sprintf("%q", s), e)(found.ParseEvent(s))
	}
}

// anyName returns a random name.
func anyName(r *rand.Rand) string {
	return []string{"a", "Z", "hat", "a-", "b7", "abcdefghijkl", "A-0123456789"}[r.Intn(7)]
}

// TestParseUndoesFormat is of P9.11: right items and events are read from their texts.
func TestParseUndoesFormat(t *testing.T) {
	r := rand.New(rand.NewSource(111))
	for range 3000 {
		x := api.FoundItem{Name: anyName(r), Day: r.Intn(100001), Finder: anyName(r), Marks: anyMarks(r, 12)}
		gives(t, "ParseItem", x)(found.ParseItem(found.FormatItem(x)))
		y := api.FoundEvent{Item: anyName(r), Day: r.Intn(100001), Kind: r.Intn(5), From: anyName(r), To: anyName(r)}
		gives(t, "ParseEvent", y)(found.ParseEvent(found.FormatEvent(y)))
	}
}

// TestFormatUndoesParse is of P9.6: whatever is read has the text that it was read from.
func TestFormatUndoesParse(t *testing.T) {
	r := rand.New(rand.NewSource(112))
	items, events := 0, 0
	for range 20000 {
		s := scribbled(r, "hat 10 ann ab=c b=a")
		if x, e := found.ParseItem(s); e == api.OK {
			items++
			if got := found.FormatItem(x); got != s {
				t.Errorf("%q is read as the item of %q", s, got)
			}
		}
		s = scribbled(r, "hat 20 stored ann bob")
		if x, e := found.ParseEvent(s); e == api.OK {
			events++
			if got := found.FormatEvent(x); got != s {
				t.Errorf("%q is read as the event of %q", s, got)
			}
		}
	}
	if items < 2000 || events < 2000 {
		t.Errorf("too few texts are read: %d and %d", items, events)
	}
}

// scribbled returns a text in which a few bytes are changed.
func scribbled(r *rand.Rand, s string) string {
	b := []byte(s)
	for range r.Intn(4) {
		b[r.Intn(len(b))] = "01 29-ab=Z\xff\t"[r.Intn(12)]
	}
	return string(b)
}
