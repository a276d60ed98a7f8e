package tariff_test

import (
	"math/rand"
	"testing"

	"fiacre/api"
	"fiacre/tariff"
)

// TestKinds is of P1.2.
func TestKinds(t *testing.T) {
	c := city()
	c.Holidays = []int{7, 99999}
	for _, x := range []struct {
		date, kind int
		e          api.Errno
	}{
		{0, 0, api.OK}, {6, 6, api.OK}, {7, 7, api.OK}, {8, 1, api.OK}, {14, 0, api.OK}, {99999, 7, api.OK}, {100000, 5, api.OK},
		{-1, 0, api.ErrRange}, {100001, 0, api.ErrRange},
	} {
		kind, e := tariff.KindOf(c, x.date)
		want(t, "KindOf", kind, e, x.kind, x.e)
	}
	c.Name = "1"
	_, e := tariff.KindOf(c, -1)
	wantError(t, "KindOf of a wrong tariff", e, api.ErrName)
}

// TestLater is of P1.2.
func TestLater(t *testing.T) {
	for _, x := range []struct {
		m       api.Moment
		seconds int
		n       api.Moment
		e       api.Errno
	}{
		{moment(3, 86399), 0, moment(3, 86399), api.OK},
		{moment(3, 86399), 1, moment(4, 0), api.OK},
		{moment(3, 86399), 2, moment(4, 1), api.OK},
		{moment(0, 0), 100000000, moment(1157, 35200), api.OK},
		{moment(0, 0), 100000001, moment(0, 0), api.ErrRange},
		{moment(0, 0), -1, moment(0, 0), api.ErrRange},
		{moment(100000, 0), 86399, moment(100000, 86399), api.OK},
		{moment(100000, 0), 86400, moment(0, 0), api.ErrRange},
		{moment(100001, 0), 0, moment(0, 0), api.ErrRange},
		{moment(-1, 0), 86400, moment(0, 0), api.ErrRange},
		{moment(0, 86400), 0, moment(0, 0), api.ErrRange},
		{moment(0, -1), 1, moment(0, 0), api.ErrRange},
	} {
		n, e := tariff.Later(x.m, x.seconds)
		want(t, "Later", n, e, x.n, x.e)
	}
}

// TestRuleAt is of P1.2.
func TestRuleAt(t *testing.T) {
	c := city()
	c.Rules = append(c.Rules,
		api.TariffRule{Name: "monday", From: 7, To: 14, Zones: []int{1}, Days: []int{0}, Begin: 100, End: 200},
		api.TariffRule{Name: "feast", From: 0, To: 20, Zones: []int{1}, Days: []int{7}, Begin: 300, End: 300})
	c.Rules[1].Zones = []int{0}
	for _, x := range []struct {
		at   api.TariffPlace
		rule int
		e    api.Errno
	}{
		{place(0, 0, 21599), 1, api.OK},
		{place(0, 0, 21600), 0, api.OK},
		{place(0, 0, 79199), 0, api.OK},
		{place(0, 0, 79200), 1, api.OK},
		{place(0, 0, 0), 1, api.OK},
		{place(0, 0, 86399), 1, api.OK},
		{place(1, 0, 0), 0, api.ErrNone},
		{place(1, 0, 150), 0, api.ErrNone},    // ahead of From
		{place(1, 7, 150), 3, api.OK},         // a holiday is no Monday
		{place(1, 7, 21600), 0, api.ErrClash}, // all day, as both hours are the same
		{place(1, 14, 99), 0, api.ErrNone},
		{place(1, 14, 100), 2, api.OK},
		{place(1, 14, 199), 2, api.OK},
		{place(1, 14, 200), 0, api.ErrNone},
		{place(1, 21, 150), 0, api.ErrNone}, // behind To
		{place(1, 15, 150), 0, api.ErrNone}, // a Tuesday
		{place(2, 0, -1), 0, api.ErrMissing},
		{place(-1, 0, 0), 0, api.ErrMissing},
		{place(0, -1, 0), 0, api.ErrRange},
		{place(0, 0, 86400), 0, api.ErrRange},
	} {
		rule, e := tariff.RuleAt(c, x.at)
		want(t, "RuleAt", rule, e, x.rule, x.e)
	}
	_, e := tariff.RuleAt(broken(), place(2, 0, 0))
	wantError(t, "RuleAt of a wrong tariff", e, api.ErrRange)
}

// TestMidnight is of P1.2: a rule across midnight holds in the morning and the evening of its own dates.
func TestMidnight(t *testing.T) {
	c := plain(1, 1, 0, 0, 0)
	c.Rules[0].Days, c.Rules[0].Begin, c.Rules[0].End = []int{4}, 80000, 20000
	for _, x := range []struct {
		date, time int
		e          api.Errno
	}{
		{3, 86399, api.ErrNone}, {4, 0, api.OK}, {4, 19999, api.OK}, {4, 20000, api.ErrNone}, {4, 79999, api.ErrNone}, {4, 80000, api.OK}, {4, 86399, api.OK}, {5, 0, api.ErrNone},
	} {
		_, e := tariff.RuleAt(c, place(0, x.date, x.time))
		wantError(t, "RuleAt about midnight", e, x.e)
	}
}

// TestNextChange is of P1.2.
func TestNextChange(t *testing.T) {
	c := city()
	c.Rules[0].To, c.Rules[1].To = 450, 450
	overlap := city()
	overlap.Rules[1].Begin, overlap.Rules[1].End = 0, 0
	overlap.Rules = append(overlap.Rules, overlap.Rules[1])
	overlap.Rules[2].Name, overlap.Rules[2].Begin, overlap.Rules[2].End = "late", 79200, 80000
	always := plain(1, 1, 0, 0, 0)
	long := plain(1, 1, 0, 0, 0)
	long.Rules[0].To = 449
	for _, x := range []struct {
		c  api.Tariff
		at api.TariffPlace
		m  api.Moment
		e  api.Errno
	}{
		{c, place(0, 0, 36000), moment(0, 79200), api.OK},
		{c, place(0, 0, 79199), moment(0, 79200), api.OK},
		{c, place(0, 0, 79200), moment(1, 21600), api.OK}, // not at midnight: the rule is the same
		{c, place(1, 450, 80000), moment(451, 0), api.OK},
		{c, place(1, 451, 0), moment(0, 0), api.ErrNone},
		{overlap, place(0, 0, 0), moment(0, 21600), api.OK},
		{overlap, place(0, 0, 21600), moment(0, 80000), api.OK}, // other two rules clash from 79200 on: the same error
		{always, place(0, 0, 0), moment(0, 0), api.ErrNone},
		{always, place(0, 100000, 86399), moment(0, 0), api.ErrNone},
		{long, place(0, 50, 86399), moment(450, 0), api.OK}, // just MaxTariffDates later
		{long, place(0, 49, 86399), moment(0, 0), api.ErrNone},
		{c, place(2, -1, 0), moment(0, 0), api.ErrMissing},
		{c, place(0, 0, -1), moment(0, 0), api.ErrRange},
		{broken(), place(2, 0, 0), moment(0, 0), api.ErrRange},
	} {
		m, e := tariff.NextChange(x.c, x.at)
		want(t, "NextChange", m, e, x.m, x.e)
	}
}

// TestNextChangeByHours is of P1.2: the change is the one that is found hour by hour.
func TestNextChangeByHours(t *testing.T) {
	r := rand.New(rand.NewSource(12))
	for range 300 {
		c := anyTariff(r)
		at := place(r.Intn(len(c.Zones)), r.Intn(25), r.Intn(api.Day))
		rule, now := tariff.RuleAt(c, at)
		wanted, f := api.Moment{}, api.ErrNone
		for hour := at.At.Date*24 + at.At.Time/3600 + 1; hour < 24*60 && f != api.OK; hour++ {
			m := moment(hour/24, hour%24*3600)
			if n, e := tariff.RuleAt(c, api.TariffPlace{Zone: at.Zone, At: m}); n != rule || e != now {
				wanted, f = m, api.OK
			}
		}
		m, e := tariff.NextChange(c, at)
		want(t, "NextChange of "+tariff.FormatTariff(c), m, e, wanted, f)
	}
}

// TestGapsAndOverlaps is of P1.3.
func TestGapsAndOverlaps(t *testing.T) {
	gap := city()
	gap.Rules = gap.Rules[:1]
	port := city()
	port.Rules[1].Zones = []int{0}
	late := city()
	late.Rules = append(late.Rules, api.TariffRule{Name: "late", To: 100000, Zones: []int{1}, Days: []int{5}, Begin: 72000, End: 86400})
	none := city()
	none.Rules = nil
	for _, x := range []struct {
		c         api.Tariff
		dates     api.Range
		gap       api.TariffPlace
		gapError  api.Errno
		over      api.TariffPlace
		two       [2]int
		overError api.Errno
	}{
		{city(), api.Range{Lo: 0, Hi: 399}, place(0, 0, 0), api.ErrNone, place(0, 0, 0), [2]int{}, api.ErrNone},
		{gap, api.Range{Lo: 3, Hi: 3}, place(0, 3, 0), api.OK, place(0, 0, 0), [2]int{}, api.ErrNone},
		{port, api.Range{Lo: 99999, Hi: 100000}, place(1, 99999, 0), api.OK, place(0, 0, 0), [2]int{}, api.ErrNone},
		{late, api.Range{Lo: 0, Hi: 10}, place(0, 0, 0), api.ErrNone, place(1, 5, 72000), [2]int{0, 2}, api.OK},
		{late, api.Range{Lo: 6, Hi: 11}, place(0, 0, 0), api.ErrNone, place(0, 0, 0), [2]int{}, api.ErrNone},
		{none, api.Range{Lo: 2, Hi: 2}, place(0, 2, 0), api.OK, place(0, 0, 0), [2]int{}, api.ErrNone},
		{city(), api.Range{Lo: -1, Hi: 0}, place(0, 0, 0), api.ErrRange, place(0, 0, 0), [2]int{}, api.ErrRange},
		{city(), api.Range{Lo: 5, Hi: 100001}, place(0, 0, 0), api.ErrRange, place(0, 0, 0), [2]int{}, api.ErrRange},
		{city(), api.Range{Lo: 5, Hi: 4}, place(0, 0, 0), api.ErrOrder, place(0, 0, 0), [2]int{}, api.ErrOrder},
		{city(), api.Range{Lo: 0, Hi: 400}, place(0, 0, 0), api.ErrLarge, place(0, 0, 0), [2]int{}, api.ErrLarge},
		{broken(), api.Range{Lo: 5, Hi: 4}, place(0, 0, 0), api.ErrRange, place(0, 0, 0), [2]int{}, api.ErrRange},
	} {
		at, e := tariff.FirstGap(x.c, x.dates)
		want(t, "FirstGap", at, e, x.gap, x.gapError)
		at, two, e := tariff.FirstOverlap(x.c, x.dates)
		want(t, "FirstOverlap", at, e, x.over, x.overError)
		want(t, "its rules", two, e, x.two, x.overError)
	}
}

// TestFirstTwo is of P1.3: of three rules the first two are named, at the moment that is first, whatever zone it is in.
func TestFirstTwo(t *testing.T) {
	c := city()
	c.Rules[0].Zones = []int{0}
	c.Rules[1].Zones = []int{0}
	for _, name := range []string{"p", "q", "r"} {
		c.Rules = append(c.Rules, api.TariffRule{Name: name, To: 100000, Zones: []int{1}, Days: days(), Begin: 500, End: 600})
	}
	c.Rules[2].Begin = 550
	at, two, e := tariff.FirstOverlap(c, api.Range{Lo: 4, Hi: 9})
	want(t, "FirstOverlap", at, e, place(1, 4, 500), api.OK)
	want(t, "its rules", two, e, [2]int{3, 4}, api.OK)
	c.Rules[2].Begin = 500
	_, two, e = tariff.FirstOverlap(c, api.Range{Lo: 4, Hi: 9})
	want(t, "the first two", two, e, [2]int{2, 3}, api.OK)
}

// TestCovered is of P1.3 and P1.10: what FirstGap and FirstOverlap return is the first one by RuleAt, hour by hour.
func TestCovered(t *testing.T) {
	r := rand.New(rand.NewSource(13))
	covered := 0
	for i := range 300 {
		c := anyTariff(r)
		if i%10 == 0 {
			c = twoRules(r)
		}
		dates := api.Range{Lo: r.Intn(15)}
		dates.Hi = dates.Lo + r.Intn(5)
		gap, noGap := tariff.FirstGap(c, dates)
		over, two, noOver := tariff.FirstOverlap(c, dates)
		wantedGap, e := firstByRuleAt(c, dates, api.ErrNone)
		want(t, "FirstGap of "+tariff.FormatTariff(c), gap, noGap, wantedGap, e)
		wantedOver, f := firstByRuleAt(c, dates, api.ErrClash)
		want(t, "FirstOverlap of "+tariff.FormatTariff(c), over, noOver, wantedOver, f)
		if noOver == api.OK && (two[0] >= two[1] || onlyOf(t, c, two[0], over) != api.OK || onlyOf(t, c, two[1], over) != api.OK) {
			t.Errorf("FirstOverlap of %s: %v do not hold both", tariff.FormatTariff(c), two)
		}
		if noGap == api.ErrNone && noOver == api.ErrNone {
			covered++
		}
	}
	if covered == 0 {
		t.Error("no tariff without gaps and overlaps was tried")
	}
}

// firstByRuleAt returns the first place of these dates, at whole hours, at which RuleAt has an error.
func firstByRuleAt(c api.Tariff, dates api.Range, f api.Errno) (api.TariffPlace, api.Errno) {
	for hour := dates.Lo * 24; hour < (dates.Hi+1)*24; hour++ {
		for zone := range c.Zones {
			at := place(zone, hour/24, hour%24*3600)
			if _, e := tariff.RuleAt(c, at); e == f {
				return at, api.OK
			}
		}
	}
	return api.TariffPlace{}, api.ErrNone
}

// onlyOf returns the error of RuleAt if a tariff had this rule alone.
func onlyOf(t *testing.T, c api.Tariff, rule int, at api.TariffPlace) api.Errno {
	t.Helper()
	c.Rules = c.Rules[rule : rule+1]
	_, e := tariff.RuleAt(c, at)
	return e
}
