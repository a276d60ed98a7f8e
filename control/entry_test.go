package control_test

import (
	"fmt"
	"math"
	"math/rand"
	"strings"
	"testing"

	"fiacre/api"
	"fiacre/control"
)

// TestCheckText is of P10.2: right texts of all kinds, each of which is right of no other kind unless both are alike.
func TestCheckText(t *testing.T) {
	for kind, texts := range rightTexts {
		for _, text := range texts {
			is(t, kindWords[kind]+" "+text, control.CheckText(setup(), kind, text), api.OK)
			for other := range kindWords {
				is(t, kindWords[other]+" "+text, control.CheckText(setup(), other, text), slowTextError(setup(), other, text))
			}
		}
	}
	long := "13 paid" + strings.Repeat(" vouchers=-200", 28)
	long += strings.Repeat(" a=1", (400-len(long))/4)
	is(t, fmt.Sprint("a text of ", len(long)), control.CheckText(setup(), api.ControlMoney, long+"0"), api.OK)
	is(t, "a text of 401 bytes", control.CheckText(setup(), api.ControlMoney, long+"00"), api.ErrLarge)
}

// TestCheckTextErrors is of P10.2: texts that are not right.
func TestCheckTextErrors(t *testing.T) {
	for _, kind := range []int{math.MinInt, -1, 10, 11, math.MaxInt} {
		is(t, "no kind", control.CheckText(setup(), kind, ""), api.ErrKind)
	}
	for kind := range kindWords {
		for text, e := range map[string]api.Errno{
			"": api.ErrSyntax, "\n": api.ErrSyntax, rightTexts[kind][0] + "\n": api.ErrSyntax, "\n" + rightTexts[kind][0]: api.ErrSyntax,
			strings.Repeat("a", 401): api.ErrLarge, strings.Repeat("a", 401) + "\n": api.ErrSyntax, strings.Repeat(" ", 500): api.ErrLarge,
		} {
			is(t, fmt.Sprintf("%s %q", kindWords[kind], text), control.CheckText(setup(), kind, text), e)
		}
	}
	for _, c := range []struct {
		kind int
		text string
		e    api.Errno
	}{
		{api.ControlOrder, "7", api.ErrName}, {api.ControlOrder, "-", api.ErrName}, {api.ControlOrder, "a b", api.ErrName}, {api.ControlOrder, " smith", api.ErrName}, {api.ControlOrder, "smith ", api.ErrName}, {api.ControlOrder, "abcdefghijklm", api.ErrName}, {api.ControlOrder, strings.Repeat("a", 400), api.ErrName},
		{api.ControlAssign, "7", api.ErrName}, {api.ControlAssign, "car_7", api.ErrName}, {api.ControlAssign, "abcdefghijklm", api.ErrName}, {api.ControlAssign, "-", api.ErrName},
		{api.ControlCancel, "--", api.ErrSyntax}, {api.ControlCancel, "- ", api.ErrSyntax}, {api.ControlCancel, " -", api.ErrSyntax}, {api.ControlCancel, "x", api.ErrSyntax}, {api.ControlCancel, strings.Repeat("-", 400), api.ErrSyntax},
		{api.ControlCarry, "x", api.ErrSyntax}, {api.ControlCarry, "1000 0", api.ErrSyntax}, {api.ControlCarry, "1000 0 36000  o1", api.ErrSyntax}, {api.ControlCarry, "1000 0 36000 q1 o0", api.ErrSyntax},
		{api.ControlCarry, "0 0 36000 o1 o3 o0", api.ErrRange}, {api.ControlCarry, "1000 0 36000 o0", api.ErrState}, {api.ControlCarry, "1000 0 36000 o1 z2 o3 o0", api.ErrMissing}, {api.ControlCarry, "1000 100001 0 o1 o3 o0", api.ErrRange}, {api.ControlCarry, "1000 0 36000 x0", api.ErrState},
		{api.ControlCarry, "1000 0 36000", api.ErrShape}, {api.ControlCarry, "1000 0 36000 o1 o3", api.ErrShape}, {api.ControlCarry, "1000 0 36000 o1 o3 o0 o1 o3 o0", api.ErrShape}, {api.ControlCarry, "1000 0 36000 o1 o3 o0 o1 o3 o0 o0", api.ErrState},
		{api.ControlBill, "x", api.ErrSyntax}, {api.ControlBill, "-", api.ErrSyntax}, {api.ControlBill, "0350", api.ErrSyntax}, {api.ControlBill, "+350", api.ErrSyntax}, {api.ControlBill, "-0", api.ErrSyntax}, {api.ControlBill, "350 ", api.ErrSyntax}, {api.ControlBill, "3.5", api.ErrSyntax}, {api.ControlBill, "1000000000", api.ErrSyntax}, {api.ControlBill, "-1000000000", api.ErrSyntax},
		{api.ControlBill, "-1", api.ErrRange}, {api.ControlBill, "-999999999", api.ErrRange},
		{api.ControlRank, "x", api.ErrSyntax}, {api.ControlRank, "arrive 20 0", api.ErrSyntax}, {api.ControlRank, "arrive 20 0 7", api.ErrName},
		{api.ControlDuty, "x", api.ErrSyntax}, {api.ControlDuty, "7 1 2", api.ErrName}, {api.ControlDuty, "ann -1 2", api.ErrRange}, {api.ControlDuty, "ann 2 1", api.ErrOrder},
		{api.ControlMoney, "x", api.ErrSyntax}, {api.ControlMoney, "13", api.ErrSyntax}, {api.ControlMoney, "13 paid vouchers", api.ErrSyntax},
		{api.ControlItem, "x", api.ErrSyntax}, {api.ControlItem, "hat 100001 ann", api.ErrRange}, {api.ControlItem, "hat 10 ann b=c a=c", api.ErrOrder}, {api.ControlItem, "7 10 ann", api.ErrName},
		{api.ControlEvent, "x", api.ErrSyntax}, {api.ControlEvent, "hat 20 lost ann office", api.ErrSyntax}, {api.ControlEvent, "hat -1 stored ann office", api.ErrRange}, {api.ControlEvent, "hat 20 stored 7 office", api.ErrName},
	} {
		what := kindWords[c.kind] + " " + c.text
		is(t, what, control.CheckText(setup(), c.kind, c.text), c.e)
		is(t, what+", slowly", slowTextError(setup(), c.kind, c.text), c.e)
	}
}

// TestCheckTextOfTariff is of P10.2: what a log comes to is asked of the tariff of the setup.
func TestCheckTextOfTariff(t *testing.T) {
	s := setup()
	s.Tariff.Zones = append(s.Tariff.Zones, "hill")
	s.Tariff.Rules[0].From = 1
	is(t, "a zone more", control.CheckText(s, api.ControlCarry, "1000 1 36000 o1 z2 o3 o0"), api.OK)
	is(t, "no rule by day", control.CheckText(s, api.ControlCarry, log), api.ErrNone)
}

// TestCheckEntry is of P10.2: right entries of all kinds.
func TestCheckEntry(t *testing.T) {
	for _, x := range example() {
		is(t, slowFormat(x), control.CheckEntry(setup(), x), api.OK)
	}
	for kind, texts := range rightTexts {
		about := "-"
		if kind >= api.ControlAssign && kind <= api.ControlBill {
			about = "B-3.59"
		}
		for _, stamp := range []string{"1 a 0", "100000 B-3 59"} {
			x := entry(fmt.Sprintf("%s ida %s %s %s", stamp, kindWords[kind], about, texts[0]))
			is(t, slowFormat(x), control.CheckEntry(setup(), x), api.OK)
		}
	}
}

// TestCheckEntryErrors is of P10.2: each entry has the error that is listed first, and one or more that are listed behind it.
func TestCheckEntryErrors(t *testing.T) {
	for text, e := range map[string]api.Errno{
		"0 zz 99 nobody order a.1 7": api.ErrMissing, "1 A 0 dan order - smith": api.ErrMissing, "1 B 0 dan order - smith": api.ErrMissing, "1 - 0 dan order - smith": api.ErrMissing,
		"0 a 0 nobody order a.1 7": api.ErrRange, "-1 a 0 dan order - smith": api.ErrRange, "100001 a 0 dan order - smith": api.ErrRange, "1 a -1 dan order - smith": api.ErrRange, "1 a 60 nobody order - smith": api.ErrRange,
		"1 a 0 nobody carry zz.1 7": api.ErrMissing, "1 a 0 Dan order - smith": api.ErrMissing, "1 a 0 a order - smith": api.ErrMissing,
		"1 a 0 eve order a.1 7": api.ErrAllowed, "1 a 0 jon order - smith": api.ErrAllowed, "1 a 0 dan carry zz.1 7": api.ErrAllowed, "1 a 0 dan bill a.0 350": api.ErrAllowed, "1 a 0 flo duty - ann 16000 20000": api.ErrAllowed, "1 a 0 gus money - 0 n": api.ErrAllowed, "1 a 0 dan item - hat 10 ann": api.ErrAllowed, "1 a 0 hal rank - arrive 20 0 a": api.ErrAllowed,
		"1 a 0 dan assign zz.99 7": api.ErrMissing, "1 a 0 dan cancel A.0 -": api.ErrMissing, "1 a 0 eve carry zz.0 7": api.ErrMissing, "1 a 0 flo bill zz.0 x": api.ErrMissing, "1 a 0 dan assign - car-7": api.ErrMissing,
		"1 a 0 dan assign a.60 7": api.ErrRange, "1 a 0 dan cancel a.-1 x": api.ErrRange, "1 a 0 eve carry a.60 7": api.ErrRange, "1 a 0 flo bill a.999999 x": api.ErrRange,
		"1 a 0 dan order a.0 7": api.ErrForm, "1 a 0 dan order zz.60 7": api.ErrForm, "1 a 0 dan rank a.0 x": api.ErrForm, "1 a 0 gus duty a.0 x": api.ErrForm, "1 a 0 flo money a.0 x": api.ErrForm, "1 a 0 hal item a.0 x": api.ErrForm, "1 a 0 hal event a.0 x": api.ErrForm,
		"1 a 0 dan order - 7": api.ErrName, "1 a 0 dan assign a.0 7": api.ErrName, "1 a 0 dan cancel a.0 x": api.ErrSyntax, "1 a 0 eve carry a.0 1000 0 36000": api.ErrShape, "1 a 0 flo bill a.0 -1": api.ErrRange, "1 a 0 hal item - hat -1 ann": api.ErrRange, "1 a 0 dan order - ": api.ErrSyntax,
	} {
		is(t, text, control.CheckEntry(setup(), entry(text)), e)
		is(t, text+", slowly", slowEntryError(setup(), entry(text)), e)
	}
	for what, x := range map[string]struct {
		change func(x *api.ControlEntry)
		e      api.Errno
	}{
		"nothing":                      {func(x *api.ControlEntry) { *x = api.ControlEntry{} }, api.ErrMissing},
		"no kind":                      {func(x *api.ControlEntry) { x.Draft.Kind = 10 }, api.ErrKind},
		"a kind below all":             {func(x *api.ControlEntry) { x.Draft.Kind = math.MinInt }, api.ErrKind},
		"no kind of no person":         {func(x *api.ControlEntry) { x.Draft.Kind, x.Draft.Person = -1, "" }, api.ErrMissing},
		"no kind of jon":               {func(x *api.ControlEntry) { x.Draft.Kind, x.Draft.Person = 10, "jon" }, api.ErrKind},
		"a far clock":                  {func(x *api.ControlEntry) { x.Stamp.Clock = math.MaxInt }, api.ErrRange},
		"a far number":                 {func(x *api.ControlEntry) { x.Stamp.Number = math.MinInt }, api.ErrRange},
		"a key without a desk":         {func(x *api.ControlEntry) { x.Draft.Key.Number = 1 }, api.ErrForm},
		"a key below 0 without a desk": {func(x *api.ControlEntry) { x.Draft.Key.Number = -1 }, api.ErrForm},
		"a key of the number 0":        {func(x *api.ControlEntry) { x.Draft.Key.Desk = "a" }, api.ErrForm},
		"a line feed":                  {func(x *api.ControlEntry) { x.Draft.Text = "smith\n" }, api.ErrSyntax},
	} {
		y := example()[0]
		x.change(&y)
		is(t, what, control.CheckEntry(setup(), y), x.e)
	}
}

// TestCheckAnyEntry is of P10.2: random entries have the error that the definition gives.
func TestCheckAnyEntry(t *testing.T) {
	r := rand.New(rand.NewSource(101))
	right := 0
	for range 20000 {
		x := spoiltEntry(r, api.ControlEntry{Stamp: api.ControlStamp{Clock: 1 + r.Intn(9), Desk: "a", Number: r.Intn(9)}, Draft: anyDraft(r)}, 8)
		e := control.CheckEntry(setup(), x)
		if e == api.OK {
			right++
		}
		is(t, fmt.Sprint(x), e, slowEntryError(setup(), x))
	}
	if right < 2000 {
		t.Errorf("%d entries are right", right)
	}
}

// odd returns a number that is likely to be at an end of something.
func odd(r *rand.Rand) int {
	ends := []int{math.MinInt, -1, 0, 1, 2, 3, 4, 5, 9, 10, 11, 59, 60, 61, 99999, 100000, 100001, 999999999, 1000000000, math.MaxInt}
	return ends[r.Intn(len(ends))]
}

// spoiltEntry returns an entry of which each part is changed once in so many times.
func spoiltEntry(r *rand.Rand, x api.ControlEntry, often int) api.ControlEntry {
	names := []string{"a", "b", "zz", "", "7", "ida", "dan", "jon", "smith", "-", "a b", "a\nb", "\xff", "abcdefghijklm", "350", log}
	for _, n := range []*int{&x.Stamp.Clock, &x.Stamp.Number, &x.Draft.Kind, &x.Draft.Key.Number} {
		if r.Intn(often) == 0 {
			*n = odd(r)
		}
	}
	for _, s := range []*string{&x.Stamp.Desk, &x.Draft.Person, &x.Draft.Key.Desk, &x.Draft.Text} {
		if r.Intn(often) == 0 {
			*s = names[r.Intn(len(names))]
		}
	}
	return x
}
