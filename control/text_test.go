package control_test

import (
	"fmt"
	"math"
	"math/rand"
	"slices"
	"strings"
	"testing"

	"fiacre/api"
	"fiacre/control"
)

// TestFormatEntry is of P10.5: texts of entries, whatever they are.
func TestFormatEntry(t *testing.T) {
	for _, text := range []string{
		"1 a 0 dan order - smith", "2 a 1 dan assign a.0 car-7", "3 a 2 dan cancel a.0 -", "3 b 0 eve carry a.0 " + log, "4 b 1 flo bill a.0 350",
		"5 a 3 dan rank - arrive 20 0 a", "100000 B-3 59 gus duty - ann 16000 20000", "5 a 3 flo money - 13 paid vouchers=-200 cash=200", "5 a 3 hal item - hat 10 ann color=red", "5 a 3 hal event - hat 20 stored ann office",
	} {
		gives(t, text, text)(control.FormatEntry(entry(text)), api.OK)
	}
	for wanted, x := range map[string]api.ControlEntry{
		"0  0  order - ": {},
		"-9223372036854775808 a b 9223372036854775807 \xff item  .-5 a\nb ": {Stamp: api.ControlStamp{Clock: math.MinInt, Desk: "a b", Number: math.MaxInt}, Draft: api.ControlDraft{Person: "\xff", Kind: api.ControlItem, Key: key(" ", -5), Text: "a\nb "}},
		"0  0  bill .7 ":  {Draft: api.ControlDraft{Kind: api.ControlBill, Key: key("", 7)}},
		"0  0  bill a.0 ": {Draft: api.ControlDraft{Kind: api.ControlBill, Key: key("a", 0)}},
		"0  0  bill -.0 ": {Draft: api.ControlDraft{Kind: api.ControlBill, Key: key("-", 0)}},
	} {
		gives(t, fmt.Sprint(x), wanted)(control.FormatEntry(x), api.OK)
	}
	for _, kind := range []int{math.MinInt, -1, 10, 11, math.MaxInt} {
		x := example()[0]
		x.Draft.Kind = kind
		gives(t, fmt.Sprint("the kind ", kind), "")(control.FormatEntry(x), api.OK)
		gives(t, fmt.Sprint("a journal with the kind ", kind), "")(control.FormatJournal([]api.ControlEntry{x}), api.OK)
		gives(t, fmt.Sprint("a journal that ends with the kind ", kind), "")(control.FormatJournal(append(example(), x)), api.OK)
	}
}

// TestParseEntry is of P10.5: texts of entries, of which nothing but the form is asked.
func TestParseEntry(t *testing.T) {
	for wanted, x := range map[string]api.ControlEntry{
		"2 a 1 dan assign a.0 car-7":       {Stamp: api.ControlStamp{Clock: 2, Desk: "a", Number: 1}, Draft: api.ControlDraft{Person: "dan", Kind: api.ControlAssign, Key: key("a", 0), Text: "car-7"}},
		"0 \xff -5 7 order -.0 two words":  {Stamp: api.ControlStamp{Desk: "\xff", Number: -5}, Draft: api.ControlDraft{Person: "7", Key: key("-", 0), Text: "two words"}},
		"999999 - 999999 - event - -":      {Stamp: api.ControlStamp{Clock: 999999, Desk: "-", Number: 999999}, Draft: api.ControlDraft{Person: "-", Kind: api.ControlEvent, Text: "-"}},
		"-999999 a.0 0 - bill -a.-999999 ": {Stamp: api.ControlStamp{Clock: -999999, Desk: "a.0"}, Draft: api.ControlDraft{Person: "-", Kind: api.ControlBill, Key: key("-a", -999999)}},
		"1 a 0 dan order -  smith  ":       {Stamp: api.ControlStamp{Clock: 1, Desk: "a"}, Draft: api.ControlDraft{Person: "dan", Text: " smith  "}},
		"1 a\tb 0 \r order \t.5 \t":        {Stamp: api.ControlStamp{Clock: 1, Desk: "a\tb"}, Draft: api.ControlDraft{Person: "\r", Key: key("\t", 5), Text: "\t"}},
	} {
		gives(t, wanted, x)(control.ParseEntry(wanted))
	}
	for kind, word := range kindWords {
		gives(t, word, kind)(first(control.ParseEntry("1 a 0 dan "+word+" - x")).Draft.Kind, api.OK)
	}
}

// TestParseEntryErrors is of P10.5: texts that have not the form.
func TestParseEntryErrors(t *testing.T) {
	for _, text := range []string{
		"", " ", "      ", "1", "1 a 0 dan order -", "1 a 0 dan order", " 1 a 0 dan order - smith", "1  0 dan order - smith", "1 a  dan order - smith", "1 a 0  order - smith", "1 a 0 dan  - smith", "1 a 0 dan order  smith", " a 0 dan order - smith", "1  a 0 dan order - smith", "1 a 0 dan order  - smith",
		"x a 0 dan order - smith", "01 a 0 dan order - smith", "+1 a 0 dan order - smith", "-0 a 0 dan order - smith", "1000000 a 0 dan order - smith", "-1000000 a 0 dan order - smith", "1.0 a 0 dan order - smith", "- a 0 dan order - smith",
		"1 a x dan order - smith", "1 a 00 dan order - smith", "1 a +0 dan order - smith", "1 a -0 dan order - smith", "1 a 1000000 dan order - smith", "1 0 a dan order - smith",
		"1 a 0 dan Order - smith", "1 a 0 dan orders - smith", "1 a 0 dan orde - smith", "1 a 0 dan 0 - smith", "1 a 0 dan - order smith", "1 a 0 order dan - smith",
		"1 a 0 dan order a smith", "1 a 0 dan order . smith", "1 a 0 dan order .0 smith", "1 a 0 dan order a. smith", "1 a 0 dan order a..0 smith", "1 a 0 dan order a.b.0 smith", "1 a 0 dan order a.0. smith", "1 a 0 dan order a.0.0 smith", "1 a 0 dan order a.00 smith", "1 a 0 dan order a.+1 smith", "1 a 0 dan order a.-0 smith", "1 a 0 dan order a.1000000 smith", "1 a 0 dan order a.x smith", "1 a 0 dan order -- smith", "1 a 0 dan order 0 smith",
		"1 a 0 dan order - smith\n", "\n1 a 0 dan order - smith", "1 a\n 0 dan order - smith", "1 a 0 dan order - \n", "1 a 0 da\nn order - smith", "1 a 0 dan order a\n.0 smith",
		"1\ta 0 dan order - smith", "1 a 0 dan order\t- smith",
	} {
		fails(t, fmt.Sprintf("%q", text), api.ErrSyntax)(control.ParseEntry(text))
	}
}

// TestParseUndoesFormat is of P10.12: right entries are read from their texts.
func TestParseUndoesFormat(t *testing.T) {
	r := rand.New(rand.NewSource(105))
	for range 5000 {
		x := api.ControlEntry{Stamp: api.ControlStamp{Clock: 1 + r.Intn(100000), Desk: []string{"a", "b", "B-3"}[r.Intn(3)], Number: r.Intn(60)}, Draft: anyDraft(r)}
		is(t, fmt.Sprint(x), control.CheckEntry(setup(), x), api.OK)
		gives(t, fmt.Sprint(x), slowFormat(x))(control.FormatEntry(x), api.OK)
		if got, e := control.ParseEntry(control.FormatEntry(x)); got != x || e != api.OK {
			t.Errorf("%v is read as %v, error %d", x, got, e)
		}
	}
}

// TestFormatUndoesParse is of P10.5: whatever is read has the text that it was read from, and what is not read has not the form.
func TestFormatUndoesParse(t *testing.T) {
	r := rand.New(rand.NewSource(106))
	read := 0
	for range 20000 {
		text := scribbled(r, []string{"12 ab 10 dan order - smith", "2 a 1 dan cancel a.10 - -", "345 bc 6 flo bill ab.0 350"}[r.Intn(3)])
		x, e := control.ParseEntry(text)
		wanted, ok := slowParse(text)
		if x != wanted || ok != (e == api.OK) {
			t.Errorf("%q is read as %v, error %d; want %v", text, x, e, wanted)
		}
		if e == api.OK {
			read++
			gives(t, text, text)(control.FormatEntry(x), api.OK)
		}
	}
	if read < 5000 {
		t.Errorf("%d texts are read", read)
	}
}

// scribbled returns a text in which a few bytes are changed.
func scribbled(r *rand.Rand, s string) string {
	b := []byte(s)
	for range r.Intn(4) {
		b[r.Intn(len(b))] = "0019- .aZ\xff\n\t"[r.Intn(12)]
	}
	return string(b)
}

// TestFormatJournal is of P10.5: the text of a journal has the check sum of all that is ahead of it.
func TestFormatJournal(t *testing.T) {
	// That of no bytes is 1, of "1" 307.
	for text, wanted := range map[string]uint64{"": 1, "1": 307, "1 ": 78932} {
		gives(t, fmt.Sprintf("the check sum of %q", text), wanted)(slowSum(text), api.OK)
	}
	gives(t, "of nothing", "")(control.FormatJournal(nil), api.OK)
	const first = "1 a 0 dan order - smith "
	gives(t, "of one entry", fmt.Sprint(first, slowSum(first), "\n"))(control.FormatJournal(example()[:1]), api.OK)
	all := control.FormatJournal(example())
	gives(t, "of the example", slowText(example()))(all, api.OK)
	gives(t, "the lines of the example", 4)(strings.Count(all, "\n"), api.OK)
	gives(t, "of entries that are not right", slowText(journal("7 zz -5 nobody bill -.5 x y ", "7 zz -5 nobody order - ")))(control.FormatJournal(journal("7 zz -5 nobody bill -.5 x y ", "7 zz -5 nobody order - ")), api.OK)
	many := orders("a", 1, 90)
	gives(t, "of too many entries", slowText(many))(control.FormatJournal(many), api.OK)
	odd := []api.ControlEntry{{Draft: api.ControlDraft{Text: "\xff\x00\n"}}}
	gives(t, "of odd bytes", slowText(odd))(control.FormatJournal(odd), api.OK)
}

// recovers wants that Recover of a text returns these entries, and how many bytes these have.
func recovers(t *testing.T, what string, text string, wanted []api.ControlEntry) {
	t.Helper()
	l, bytes, e := control.Recover(setup(), text)
	if !slices.Equal(l, wanted) || bytes != len(slowText(wanted)) || e != api.OK {
		t.Errorf("%s: %v of %d bytes, error %d; want %v of %d", what, l, bytes, e, wanted, len(slowText(wanted)))
	}
}

// TestRecover is of P10.5, and of P10.11: what is left of a journal that is cut, or was tampered with.
func TestRecover(t *testing.T) {
	l := example()
	text := control.FormatJournal(l)
	recovers(t, "all", text, l)
	recovers(t, "without the last byte", text[:len(text)-1], l[:3])
	recovers(t, "nothing", "", nil)
	recovers(t, "with a line feed more", text+"\n", l)
	recovers(t, "behind a line feed", "\n"+text, nil)
	recovers(t, "behind a byte", "x"+text, nil)
	recovers(t, "with an entry without a sum", text+"5 b 2 dan order - jones\n", l)
	recovers(t, "twice", text+text, l)
	recovers(t, "with a wrong sum", strings.Replace(text, "\n", "0\n", 1), nil)
	recovers(t, "with a sum that is written otherwise", strings.Replace(text, "smith ", "smith 0", 1), nil)
	recovers(t, "with a blank more", strings.Replace(text, "smith ", "smith  ", 1), nil)
	recovers(t, "with a carriage return", strings.Replace(text, "\n", "\r\n", 1), nil)
	recovers(t, "with another passenger", strings.Replace(text, "smith", "smyth", 1), nil)
	recovers(t, "with another car", strings.Replace(text, "car-7", "car-8", 1), l[:1])
	recovers(t, "sixty entries", slowText(orders("a", 1, 60)), orders("a", 1, 60))
	recovers(t, "more than sixty", slowText(orders("a", 1, 61)), orders("a", 1, 60))
	recovers(t, "more than sixty of two desks", slowText(append(orders("a", 1, 31), orders("b", 32, 30)...)), append(orders("a", 1, 31), orders("b", 32, 29)...))
	for what, wrong := range map[string]string{
		"a wrong text": "2 a 1 dan order - 7", "a wrong key": "2 a 1 dan assign - car-7", "a person who may not": "2 a 1 eve order - p", "nobody": "2 a 1 kim order - p", "a desk that is none": "2 zz 0 dan order - p", "a stamp of before": "1 a 1 dan order - p", "a gap": "2 a 2 dan order - p", "a number twice": "2 a 0 dan order - p", "no text": "2 a 1 dan order - ",
	} {
		l := journal("1 a 0 dan order - smith", wrong, "3 b 0 dan order - p")
		if what == "a stamp of before" {
			l[0].Stamp.Clock = 2
		}
		recovers(t, what, slowText(l), l[:1])
	}
}

// TestRecoverCut is of P10.11: of each beginning of a text, the entries up to the last whole line.
func TestRecoverCut(t *testing.T) {
	r := rand.New(rand.NewSource(107))
	for range 30 {
		apart := anyJournals(t, r, 12)
		l := slowJoined(slowJoined(apart[0], apart[1]), apart[2])
		text := control.FormatJournal(l)
		gives(t, "the text", slowText(l))(text, api.OK)
		for cut := range len(text) + 1 {
			recovers(t, fmt.Sprint("cut at ", cut), text[:cut], l[:strings.Count(text[:cut], "\n")])
		}
	}
}

// TestRecoverAny is of P10.5: of texts in which bytes are changed, as many lines as make the text of a right journal.
func TestRecoverAny(t *testing.T) {
	r := rand.New(rand.NewSource(108))
	cut := 0
	for range 2000 {
		l := anyJournals(t, r, 8)[0]
		text := control.FormatJournal(l)
		if r.Intn(2) == 0 {
			text = control.FormatJournal(spoiltJournal(r, l))
		}
		if text != "" {
			text = scribbled(r, text)
		}
		got, bytes, e := control.Recover(setup(), text)
		wanted := slowRecovered(text)
		if !slices.Equal(got, wanted) || bytes != len(slowText(wanted)) || e != api.OK {
			t.Errorf("%q: %v of %d bytes, error %d; want %v", text, got, bytes, e, wanted)
		}
		if len(wanted) < strings.Count(text, "\n") {
			cut++
		}
	}
	if cut < 200 {
		t.Errorf("%d texts were not recovered to their ends", cut)
	}
}

// slowRecovered is the longest journal of which the text is a beginning of a text.
func slowRecovered(text string) []api.ControlEntry {
	var best []api.ControlEntry
	for many := range strings.Count(text, "\n") + 1 {
		var l []api.ControlEntry
		for _, line := range strings.SplitAfter(text, "\n")[:many] {
			x, _ := slowParse(line[:max(0, strings.LastIndexByte(line, ' '))])
			l = append(l, x)
		}
		if _, e := slowJournalError(setup(), l); e == api.OK && strings.HasPrefix(text, slowText(l)) {
			best = l
		}
	}
	return best
}
