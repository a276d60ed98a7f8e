package tariff_test

import (
	"math"
	"math/rand"
	"strings"
	"testing"

	"fiacre/api"
	"fiacre/tariff"
)

// TestTripTexts is of P1.7.
func TestTripTexts(t *testing.T) {
	for _, x := range []struct {
		trip api.TariffTrip
		text string
	}{
		{ride(moment(0, 36000), segment(0, 1000, 100)), "0 36000 meter 0 0,1000,100"},
		{api.TariffTrip{Fixed: true, Segments: []api.TariffSegment{segment(1, 2, 3)}}, "0 0 fixed - 1,2,3"},
		{api.TariffTrip{At: moment(-1, 999999999), Extras: []int{-3, 0, 7}, Segments: []api.TariffSegment{segment(-1, -22, 3), segment(4, 5, -999999999)}}, "-1 999999999 meter -3,0,7 -1,-22,3 4,5,-999999999"},
	} {
		want(t, "FormatTrip", tariff.FormatTrip(x.trip), api.OK, x.text, api.OK)
		trip, e := tariff.ParseTrip(x.text)
		want(t, "ParseTrip of "+x.text, trip, e, x.trip, api.OK)
	}
	odd := api.TariffTrip{At: moment(math.MinInt, math.MaxInt)}
	want(t, "FormatTrip of no segments", tariff.FormatTrip(odd), api.OK, "-9223372036854775808 9223372036854775807 meter -", api.OK)
}

// TestTextsOfNoTrip is of P1.7.
func TestTextsOfNoTrip(t *testing.T) {
	for _, s := range []string{
		"", " ", "0", "0 0 meter -", "0 0 moon - 0,1,1", "0 0 Meter - 0,1,1", "0 0 meter 0, 0,1,1", "0 0 meter ,0 0,1,1", "0 0 meter 0,,0 0,1,1",
		"0 0 meter  0,1,1", "0 0 meter - 0,1", "0 0 meter - 0,1,1,1", "0 0 meter - 0,1,", "0 0 meter - 0,1,x", "0 0 meter - 0,1,1 ", " 0 0 meter - 0,1,1",
		"0 0 meter -  0,1,1", "0 0 meter - 0,1,1  0,1,1", "0 0 meter - 0,1,1\n", "0\t0 meter - 0,1,1", "00 0 meter - 0,1,1", "+1 0 meter - 0,1,1",
		"-0 0 meter - 0,1,1", "0 01 meter - 0,1,1", "0 1e1 meter - 0,1,1", "1234567890 0 meter - 0,1,1", "0 -1234567890 meter - 0,1,1",
		"0 0 meter 1234567890 0,1,1", "0 0 meter - 0,1234567890,1", "0 0 meter -- 0,1,1", "0 0 meter -,1 0,1,1", "0 0 meter - -", "0 0 meter - 0,1,99999999999999999999",
	} {
		x, e := tariff.ParseTrip(s)
		want(t, "ParseTrip of "+s, x, e, api.TariffTrip{}, api.ErrSyntax)
	}
}

// TestPrint is of P1.7.
func TestPrint(t *testing.T) {
	one := strings.TrimSuffix(strings.ReplaceAll(cityText, "\n", ";"), ";")
	s, e := tariff.Print(city())
	want(t, "Print", s, e, cityText, api.OK)
	want(t, "FormatTariff", tariff.FormatTariff(city()), api.OK, one, api.OK)
	c, mark, e := tariff.Parse(cityText)
	want(t, "Parse", c, e, city(), api.OK)
	want(t, "its mark", mark, api.OK, api.TextMark{}, api.OK)
	c, e = tariff.ParseTariff(one)
	want(t, "ParseTariff", c, e, city(), api.OK)
	s, e = tariff.Print(broken())
	want(t, "Print of a wrong one", s, e, "", api.ErrRange)
	want(t, "FormatTariff of a wrong one", tariff.FormatTariff(broken()), api.OK, "", api.OK)
	_, e = tariff.ParseTariff(cityText)
	wantError(t, "ParseTariff of lines", e, api.ErrSyntax)
	_, e = tariff.ParseTariff("x\n" + strings.Repeat(" ", 60000))
	wantError(t, "ParseTariff of long lines", e, api.ErrSyntax)
	_, e = tariff.ParseTariff("tariff a 1 1;zone a;zone a")
	wantError(t, "ParseTariff of a wrong one", e, api.ErrExists)
	_, e = tariff.ParseTariff("")
	wantError(t, "ParseTariff of nothing", e, api.ErrMissing)
	_, e = tariff.ParseTariff(strings.Repeat(";", 60001))
	wantError(t, "ParseTariff of too much", e, api.ErrLarge)
}

// TestLooseText is of P1.7: blanks, tabs, lines without words, lists in any order of lines, and no line feed at the end.
func TestLooseText(t *testing.T) {
	loose := "\n \t\n\ttariff  city\t1000 10 \nzone town\n\nfixed town town 0\nextra bag 100\nzone port\nholiday 7\n" +
		"rule day 0 100000\ttown,port 01234567 21600 79200 350 5 8\nfixed port town 9\n" +
		" rule night 0 100000 town,port 01234567 79200 21600 450 6 8"
	wanted := city()
	wanted.Fixed = []api.TariffFixed{{}, {From: 1, Amount: 9}}
	c, mark, e := tariff.Parse(loose)
	want(t, "Parse of a loose text", c, e, wanted, api.OK)
	want(t, "its mark", mark, api.OK, api.TextMark{}, api.OK)
	_, _, e = tariff.Parse(cityText + strings.Repeat(" ", 60000-len(cityText)))
	wantError(t, "Parse of 60000 bytes", e, api.OK)
	_, mark, e = tariff.Parse(cityText + strings.Repeat(" ", 60001-len(cityText)))
	want(t, "Parse of 60001 bytes", mark, e, api.TextMark{}, api.ErrLarge)
}

// TestMarks is of P1.7.
func TestMarks(t *testing.T) {
	const a = "tariff a 1 1\nzone a\n"
	for _, x := range []struct {
		text         string
		line, column int
		e            api.Errno
	}{
		{"", 1, 1, api.ErrMissing},
		{" \t", 2, 1, api.ErrMissing},
		{"\n", 2, 1, api.ErrMissing},
		{"\n\n ", 4, 1, api.ErrMissing},
		{"zone a\n", 1, 1, api.ErrSyntax},
		{"\n  Tariff a 1 1", 2, 3, api.ErrSyntax},
		{"tariff", 1, 7, api.ErrMissing},
		{" tariff \t\n", 1, 8, api.ErrMissing},
		{"tariff 1 1 1", 1, 8, api.ErrName},
		{"tariff abcdefghijklm 1 1", 1, 8, api.ErrName},
		{"tariff a 1  \n", 1, 11, api.ErrMissing},
		{"tariff a x y\n", 1, 10, api.ErrSyntax},
		{"tariff a 1 x\n", 1, 12, api.ErrSyntax},
		{"tariff a 1 01\n", 1, 12, api.ErrSyntax},
		{"tariff a 1 -1\n", 1, 12, api.ErrSyntax},
		{"tariff a 1 +1\n", 1, 12, api.ErrSyntax},
		{"tariff a 1 1\r\n", 1, 12, api.ErrSyntax},
		{"tariff a 1234567890 1\n", 1, 10, api.ErrSyntax},
		{"tariff a 1 1 1\n", 1, 14, api.ErrSyntax},
		{"tariff a 1 1\t\t; ;\n", 1, 15, api.ErrSyntax},
		{"tariff a 1 1\ntariff b 1 1\n", 2, 1, api.ErrSyntax},
		{"tariff a 1 1\n zones a\n", 2, 2, api.ErrSyntax},
		{"tariff a 1 1\nzone\n", 2, 5, api.ErrMissing},
		{"tariff a 1 1\nzone 9\n", 2, 6, api.ErrName},
		{"tariff a 1 1\nzone a,b\n", 2, 6, api.ErrName},
		{"tariff a 1 1\nzone a b\n", 2, 8, api.ErrSyntax},
		{a + "holiday\n", 3, 8, api.ErrMissing},
		{a + "holiday x\n", 3, 9, api.ErrSyntax},
		{a + "extra a\n", 3, 8, api.ErrMissing},
		{a + "extra 1 x\n", 3, 7, api.ErrName},
		{a + "extra a 5 5\n", 3, 11, api.ErrSyntax},
		{a + "fixed a 9 x\n", 3, 9, api.ErrName},
		{a + "fixed a b 5\n", 3, 9, api.ErrMissing},
		{a + "fixed b a 5\nzone b\n", 3, 7, api.ErrMissing},
		{a + "fixed a a\n", 3, 10, api.ErrMissing},
		{a + "fixed a a x\n", 3, 11, api.ErrSyntax},
		{a + "rule 1 x\n", 3, 6, api.ErrName},
		{a + "rule r 0 x a 0 0 0 0 0 0\n", 3, 10, api.ErrSyntax},
		{a + "rule r 0 1 a,9 0 0 0 0 0 0\n", 3, 12, api.ErrName},
		{a + "rule r 0 1 b,9 0 0 0 0 0 0\n", 3, 12, api.ErrName}, // a part that is no name is ahead of a part that is no zone
		{a + "rule r 0 1 a, 0 0 0 0 0 0\n", 3, 12, api.ErrName},
		{a + "rule r 0 1 a,b 0 0 0 0 0 0\n", 3, 12, api.ErrMissing},
		{a + "rule r 0 1 a 8 0 0 0 0 0\n", 3, 14, api.ErrSyntax},
		{a + "rule r 0 1 a 0,1 0 0 0 0 0\n", 3, 14, api.ErrSyntax},
		{a + "rule r 0 1 a 0 0 0 0 0\n", 3, 23, api.ErrMissing},
		{a + "rule r 0 1 a 0 0 0 0 0 x\n", 3, 24, api.ErrSyntax},
		{a + "rule r 0 1 a 0 0 0 0 0 0 0\n", 3, 26, api.ErrSyntax},
		{"tariff a 0 1\nzone a\nzone a x\n", 3, 8, api.ErrSyntax}, // the errors of words are ahead of those of the tariff
	} {
		wantMark(t, x.text, x.line, x.column, x.e)
	}
}

// TestMarksOfTariffs is of P1.7: the errors of CheckTariff are at the line of what they name.
func TestMarksOfTariffs(t *testing.T) {
	const a = "\n tariff a 1 1\nzone a\n"
	const rule = "rule r 0 1 a 0 0 0 0 0 0\n"
	for _, x := range []struct {
		text string
		line int
		e    api.Errno
	}{
		{"\ntariff a 1 1\n", 2, api.ErrShape},
		{"\n\n  tariff a 0 1\nzone a", 3, api.ErrRange},
		{a + strings.Repeat("zone b\n", 6), 2, api.ErrLarge},
		{a + "holiday 5\n  zone a\n", 5, api.ErrExists},
		{a + "holiday 5\n\n holiday 5", 6, api.ErrOrder},
		{a + "holiday 100001\n", 4, api.ErrRange},
		{a + strings.Repeat("holiday 1\n", 21), 2, api.ErrLarge},
		{a + rule + rule, 5, api.ErrExists},
		{a + "rule r 0 1 a 00 0 0 0 0 0\n", 4, api.ErrOrder},
		{a + "rule r 0 1 a,a 0 0 0 0 0 0\n", 4, api.ErrOrder},
		{a + "zone b\nrule r 0 1 b,a 0 0 0 0 0 0\n", 5, api.ErrOrder},
		{a + "rule r 0 1 a 0 86400 0 0 0 0\n", 4, api.ErrRange},
		{a + strings.Repeat(rule, 13), 2, api.ErrLarge},
		{a + "extra x 1\nextra x 1\n", 5, api.ErrExists},
		{a + "extra x 100001\n", 4, api.ErrRange},
		{a + "fixed a a 100001\n", 4, api.ErrRange},
		{a + "fixed a a 1\nextra x 1\nfixed a a 1\n", 6, api.ErrExists},
		{a + "fixed a a 100001\nextra x 100001\n", 5, api.ErrRange}, // in the order of CheckTariff, not in that of the lines
	} {
		wantMark(t, x.text, x.line, 1, x.e)
	}
}

func wantMark(t *testing.T, text string, line, column int, f api.Errno) {
	t.Helper()
	c, mark, e := tariff.Parse(text)
	want(t, "Parse of "+text, mark, e, api.TextMark{Line: line, Column: column}, f)
	want(t, "its tariff", c, e, api.Tariff{}, f)
	one, e := tariff.ParseTariff(strings.ReplaceAll(text, "\n", ";"))
	if !strings.Contains(text, ";") {
		want(t, "ParseTariff of "+text, one, e, api.Tariff{}, f)
	}
}

// TestUndo is of P1.11.
func TestUndo(t *testing.T) {
	r := rand.New(rand.NewSource(11))
	for range 300 {
		c := anyTariff(r)
		s, e := tariff.Print(c)
		wantError(t, "Print", e, api.OK)
		again, mark, e := tariff.Parse(s)
		want(t, "Parse of "+s, again, e, c, api.OK)
		want(t, "its mark", mark, e, api.TextMark{}, api.OK)
		again, e = tariff.ParseTariff(tariff.FormatTariff(c))
		want(t, "ParseTariff of "+s, again, e, c, api.OK)
		x := anyRide(r, c)
		x.Fixed = r.Intn(2) == 0
		trip, e := tariff.ParseTrip(tariff.FormatTrip(x))
		want(t, "ParseTrip of "+tariff.FormatTrip(x), trip, e, x, api.OK)
	}
}
