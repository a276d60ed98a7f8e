package tariff_test

import (
	"math/rand"
	"testing"

	"fiacre/api"
	"fiacre/tariff"
)

// TestFares is of P1.5.
func TestFares(t *testing.T) {
	for _, x := range []struct {
		trip api.TariffTrip
		fare api.TariffFare
		ends api.Range
	}{
		{ride(moment(0, 36000), segment(0, 1000, 100)), api.TariffFare{Start: 350, Driven: 50, Total: 400}, api.Range{Lo: 400, Hi: 400}},
		{ride(moment(0, 36000), segment(0, 1000, 700)), api.TariffFare{Start: 350, Driven: 50, Total: 400}, api.Range{Lo: 400, Hi: 450}},
		{ride(moment(0, 36000), segment(0, 1000, 150)), api.TariffFare{Start: 350, Driven: 50, Total: 400}, api.Range{Lo: 400, Hi: 410}},
		{ride(moment(0, 36000), segment(0, 1000, 100), segment(0, 0, 90)), api.TariffFare{Start: 350, Driven: 50, Total: 400}, api.Range{Lo: 400, Hi: 410}},
		{ride(moment(0, 36000), segment(0, 1000, 100), segment(0, 0, 200)), api.TariffFare{Start: 350, Driven: 60, Total: 410}, api.Range{Lo: 410, Hi: 420}},
		{ride(moment(0, 21599), segment(0, 1000, 100)), api.TariffFare{Start: 450, Driven: 60, Total: 510}, api.Range{Lo: 510, Hi: 510}},
		{ride(moment(0, 21599), segment(0, 1000, 100), segment(0, 100, 10)), api.TariffFare{Start: 450, Driven: 60, Total: 510}, api.Range{Lo: 510, Hi: 520}},
	} {
		x.trip.Extras[0] = 3
		x.fare.Extras, x.fare.Total = 300, x.fare.Total+300
		x.ends.Lo, x.ends.Hi = x.ends.Lo+300, x.ends.Hi+300
		fare, e := tariff.FareOf(city(), x.trip)
		want(t, "FareOf "+tariff.FormatTrip(x.trip), fare, e, x.fare, api.OK)
		ends, e := tariff.FareRange(city(), x.trip)
		want(t, "FareRange "+tariff.FormatTrip(x.trip), ends, e, x.ends, api.OK)
	}
}

// TestFixedFares is of P1.5.
func TestFixedFares(t *testing.T) {
	c := city()
	c.Fixed = append(c.Fixed, api.TariffFixed{From: 1, To: 1})
	x := ride(moment(0, 36000), segment(0, 9999, 1), segment(1, 1, 1))
	x.Fixed, x.Extras[0] = true, 2
	fare, e := tariff.FareOf(c, x)
	want(t, "FareOf a fixed one", fare, e, api.TariffFare{Driven: 4000, Extras: 200, Total: 4200}, api.OK)
	ends, e := tariff.FareRange(c, x)
	want(t, "FareRange of a fixed one", ends, e, api.Range{Lo: 4200, Hi: 4200}, api.OK)
	x.Segments = x.Segments[1:]
	fare, e = tariff.FareOf(c, x)
	want(t, "FareOf a fixed one of 0", fare, e, api.TariffFare{Extras: 200, Total: 200}, api.OK)
	x.Segments = []api.TariffSegment{segment(1, 1, 1), segment(1, 1, 1), segment(0, 1, 1)}
	wantFareErrors(t, "from port to town", c, x, api.ErrNone)
	x.Fixed = false
	fare, e = tariff.FareOf(c, x)
	want(t, "FareOf a metered one", fare, e, api.TariffFare{Start: 350, Extras: 200, Total: 550}, api.OK)
}

func wantFareErrors(t *testing.T, what string, c api.Tariff, x api.TariffTrip, f api.Errno) {
	t.Helper()
	fare, e := tariff.FareOf(c, x)
	want(t, "FareOf "+what, fare, e, api.TariffFare{}, f)
	ends, e := tariff.FareRange(c, x)
	want(t, "FareRange "+what, ends, e, api.Range{}, f)
}

// TestLargeFares is of P1.5.
func TestLargeFares(t *testing.T) {
	x := api.TariffTrip{Segments: []api.TariffSegment{segment(0, 100000, 1)}}
	most := api.TariffFare{Driven: api.MaxMoney, Total: api.MaxMoney}
	fare, e := tariff.FareOf(plain(1, 1, 0, 10000, 0), x)
	want(t, "FareOf all money", fare, e, most, api.OK)
	ends, e := tariff.FareRange(plain(1, 1, 0, 10000, 0), x)
	want(t, "FareRange of all money", ends, e, api.Range{Lo: api.MaxMoney, Hi: api.MaxMoney}, api.OK)
	wantFareErrors(t, "more than all money", plain(1, 1, 1, 10000, 0), x, api.ErrLarge)
	fare, e = tariff.FareOf(plain(1, 1, 0, 10000, 1), x)
	want(t, "FareOf all money, with seconds", fare, e, most, api.OK)
	_, e = tariff.FareRange(plain(1, 1, 0, 10000, 1), x)
	wantError(t, "FareRange of all money, with seconds", e, api.ErrLarge)
	for range 59 {
		x.Segments = append(x.Segments, segment(0, 100000, 36000))
	}
	wantFareErrors(t, "most of everything", plain(1, 100000, 100000, 1000000, 1000000), x, api.ErrLarge)
}

// TestEstimate is of P1.5.
func TestEstimate(t *testing.T) {
	ten := place(0, 0, 36000)
	metres, seconds := api.Range{Lo: 800, Hi: 1000}, api.Range{Lo: 100, Hi: 150}
	gap := city()
	gap.Rules = gap.Rules[:1]
	clash := city()
	clash.Rules[1].Begin, clash.Rules[1].End = 0, 0
	for _, x := range []struct {
		what            string
		c               api.Tariff
		at              api.TariffPlace
		metres, seconds api.Range
		ends            api.Range
		e               api.Errno
	}{
		{"ten o'clock", city(), ten, metres, seconds, api.Range{Lo: 390, Hi: 410}, api.OK},
		{"a known trip", city(), ten, api.Range{Lo: 1000, Hi: 1000}, api.Range{Lo: 150, Hi: 150}, api.Range{Lo: 400, Hi: 410}, api.OK},
		{"the night", city(), place(1, 5, 0), metres, seconds, api.Range{Lo: 490, Hi: 520}, api.OK},
		{"the least and the most", city(), ten, api.Range{Hi: 100000}, api.Range{Lo: 1, Hi: 36000}, api.Range{Lo: 350, Hi: 8230}, api.OK},
		{"a wrong tariff", broken(), place(2, 0, 0), metres, seconds, api.Range{}, api.ErrRange},
		{"no zone", city(), place(2, -1, 0), metres, seconds, api.Range{}, api.ErrMissing},
		{"no moment", city(), place(0, 0, 86400), api.Range{Lo: 5, Hi: 4}, seconds, api.Range{}, api.ErrRange},
		{"metres below 0", city(), ten, api.Range{Lo: -1, Hi: 5}, seconds, api.Range{}, api.ErrRange},
		{"too many metres", city(), ten, api.Range{Lo: 0, Hi: 100001}, seconds, api.Range{}, api.ErrRange},
		{"no seconds", city(), ten, api.Range{Lo: 5, Hi: 4}, api.Range{Lo: 0, Hi: 5}, api.Range{}, api.ErrRange},
		{"too many seconds", city(), ten, metres, api.Range{Lo: 1, Hi: 36001}, api.Range{}, api.ErrRange},
		{"metres that fall", gap, place(0, 0, 0), api.Range{Lo: 5, Hi: 4}, seconds, api.Range{}, api.ErrOrder},
		{"seconds that fall", city(), ten, metres, api.Range{Lo: 5, Hi: 4}, api.Range{}, api.ErrOrder},
		{"a gap", gap, place(0, 0, 0), metres, seconds, api.Range{}, api.ErrNone},
		{"a clash", clash, ten, metres, seconds, api.Range{}, api.ErrClash},
		{"all money", plain(1, 1, 0, 10000, 0), place(0, 0, 0), api.Range{Hi: 100000}, api.Range{Lo: 1, Hi: 1}, api.Range{Hi: api.MaxMoney}, api.OK},
		{"more money", plain(1, 1, 1, 10000, 0), place(0, 0, 0), api.Range{Hi: 100000}, api.Range{Lo: 1, Hi: 1}, api.Range{}, api.ErrLarge},
	} {
		ends, e := tariff.Estimate(x.c, api.TariffQuestion{At: x.at, Metres: x.metres, Seconds: x.seconds})
		want(t, "Estimate of "+x.what, ends, e, x.ends, x.e)
	}
}

// TestMoreIsNotCheaper is of P1.8.
func TestMoreIsNotCheaper(t *testing.T) {
	r := rand.New(rand.NewSource(18))
	for range 500 {
		c := twoRules(r)
		x := anyRide(r, c)
		steps, e := tariff.StepsOf(c, x)
		wantError(t, "StepsOf", e, api.OK)
		for i := range steps {
			begun := x
			begun.Segments = x.Segments[:i+1]
			if lastStep(t, c, begun) > steps[len(steps)-1] || lastStep(t, c, begun) != steps[i] {
				t.Errorf("%s: a beginning has more steps", tariff.FormatTrip(x))
			}
		}
		more := x
		more.Segments = append([]api.TariffSegment{}, x.Segments...)
		more.Segments[len(steps)-1].Metres += r.Intn(500)
		more.Segments[len(steps)-1].Seconds += r.Intn(500)
		if lastStep(t, c, more) < lastStep(t, c, x) || total(t, c, more) < total(t, c, x) {
			t.Errorf("%s is cheaper than %s", tariff.FormatTrip(more), tariff.FormatTrip(x))
		}
	}
}

// TestCutAnyhow is of P1.9.
func TestCutAnyhow(t *testing.T) {
	r := rand.New(rand.NewSource(19))
	same, other := 0, 0
	for range 3000 {
		c := twoRules(r)
		x := anyRide(r, c)
		i := r.Intn(len(x.Segments))
		s := x.Segments[i]
		if s.Seconds == 1 {
			continue
		}
		cut, e := tariff.Cut(x, i, segment(s.Zone, r.Intn(s.Metres+1), 1+r.Intn(s.Seconds-1)))
		wantError(t, "Cut", e, api.OK)
		rules, e := tariff.RulesOf(c, cut)
		wantError(t, "RulesOf", e, api.OK)
		if rules[i] != rules[i+1] {
			continue
		}
		before, behind := lastStep(t, c, x), lastStep(t, c, cut)
		ends, e := tariff.FareRange(c, x)
		wantError(t, "FareRange", e, api.OK)
		if all := total(t, c, cut); behind < before || all < ends.Lo || all > ends.Hi {
			t.Errorf("%s cut to %s: %d steps, then %d; %d of %v", tariff.FormatTrip(x), tariff.FormatTrip(cut), before, behind, all, ends)
		}
		rule := c.Rules[rules[i]]
		if speedOf(rule, cut.Segments[i])*speedOf(rule, cut.Segments[i+1]) < 0 {
			other++
			continue
		}
		same++
		if before != behind {
			t.Errorf("%s cut to %s: %d steps, then %d", tariff.FormatTrip(x), tariff.FormatTrip(cut), before, behind)
		}
	}
	if same == 0 || other == 0 {
		t.Error("not all ways to cut were tried")
	}
}

// speedOf returns 1 if a segment is faster than the speed of its rule at which both count the same, -1 if slower, 0 at it.
func speedOf(rule api.TariffRule, s api.TariffSegment) int {
	byMetres, bySeconds := rule.Metre*s.Metres, rule.Second*s.Seconds
	switch {
	case byMetres > bySeconds:
		return 1
	case byMetres < bySeconds:
		return -1
	}
	return 0
}

// TestCutAtExamples is of P1.9: both parts as fast, and one of each.
func TestCutAtExamples(t *testing.T) {
	x := ride(moment(0, 36000), segment(0, 1000, 100))
	for _, y := range []struct {
		first  api.TariffSegment
		points []int
	}{
		{segment(0, 400, 90), []int{2000, 3000}},
		{segment(0, 0, 90), []int{720, 5000}},
	} {
		cut, e := tariff.Cut(x, 0, y.first)
		wantError(t, "Cut", e, api.OK)
		points, e := tariff.PointsOf(city(), cut)
		want(t, "PointsOf a cut one", points, e, y.points, api.OK)
		want(t, "its steps", lastStep(t, city(), cut), api.OK, 5, api.OK)
	}
}
