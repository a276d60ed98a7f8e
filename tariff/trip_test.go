package tariff_test

import (
	"math"
	"slices"
	"testing"

	"fiacre/api"
	"fiacre/tariff"
)

// TestTrips is of P1.4.
func TestTrips(t *testing.T) {
	for _, x := range []struct {
		what   string
		change func(x *api.TariffTrip)
		number int
		e      api.Errno
	}{
		{"nothing", func(x *api.TariffTrip) {}, 0, api.OK},
		{"most of all", func(x *api.TariffTrip) {
			x.Extras[0] = api.MaxTariffExtra
			x.Segments = slices.Repeat([]api.TariffSegment{segment(1, api.MaxTariffMetres, api.MaxTariffHours)}, 60)
		}, 0, api.OK},
		{"the date", func(x *api.TariffTrip) { x.At.Date = -1 }, 0, api.ErrRange},
		{"the time", func(x *api.TariffTrip) { x.At.Time, x.Extras = api.Day, nil }, 0, api.ErrRange},
		{"no supplements", func(x *api.TariffTrip) { x.Extras = nil }, 0, api.ErrShape},
		{"a supplement too many", func(x *api.TariffTrip) { x.Extras = []int{-1, -1} }, 0, api.ErrShape},
		{"a supplement below 0", func(x *api.TariffTrip) { x.Extras[0], x.Segments = -1, nil }, 0, api.ErrRange},
		{"a supplement too often", func(x *api.TariffTrip) { x.Extras[0] = api.MaxTariffExtra + 1 }, 0, api.ErrRange},
		{"no segments", func(x *api.TariffTrip) { x.Segments = nil }, 0, api.ErrShape},
		{"61 segments", func(x *api.TariffTrip) { x.Segments = make([]api.TariffSegment, 61) }, 0, api.ErrLarge},
		{"no such zone", func(x *api.TariffTrip) { x.Segments[1] = segment(2, -1, 0) }, 1, api.ErrMissing},
		{"a zone below 0", func(x *api.TariffTrip) { x.Segments[1].Zone = -1 }, 1, api.ErrMissing},
		{"metres below 0", func(x *api.TariffTrip) { x.Segments[1].Metres = -1 }, 1, api.ErrRange},
		{"too many metres", func(x *api.TariffTrip) { x.Segments[2].Metres = api.MaxTariffMetres + 1 }, 2, api.ErrRange},
		{"no seconds", func(x *api.TariffTrip) { x.Segments[2].Seconds = 0 }, 2, api.ErrRange},
		{"too many seconds", func(x *api.TariffTrip) { x.Segments[2].Seconds = api.MaxTariffHours + 1 }, 2, api.ErrRange},
		{"the first segment first", func(x *api.TariffTrip) { x.Segments[0].Seconds, x.Segments[1].Zone = 0, 2 }, 0, api.ErrRange},
	} {
		trip := ride(moment(0, 36000), segment(0, 1000, 100), segment(1, 0, 1), segment(0, 5, 5))
		x.change(&trip)
		number, e := tariff.CheckTrip(city(), trip)
		want(t, "CheckTrip of "+x.what, number, e, x.number, x.e)
		if x.e != api.OK {
			wantErrors(t, x.what, city(), trip, x.e)
		}
	}
	wantErrors(t, "a wrong tariff", broken(), api.TariffTrip{}, api.ErrRange)
	c := city()
	c.Extras = append(c.Extras, api.TariffExtra{Name: "dog"})
	number, e := tariff.CheckTrip(c, api.TariffTrip{Extras: []int{20, 21}})
	want(t, "CheckTrip of the second supplement", number, e, 1, api.ErrRange)
}

// wantErrors wants an error from all functions of trips.
func wantErrors(t *testing.T, what string, c api.Tariff, x api.TariffTrip, f api.Errno) {
	t.Helper()
	l, e := tariff.RulesOf(c, x)
	want(t, "RulesOf "+what, l, e, nil, f)
	l, e = tariff.PointsOf(c, x)
	want(t, "PointsOf "+what, l, e, nil, f)
	l, e = tariff.StepsOf(c, x)
	want(t, "StepsOf "+what, l, e, nil, f)
	fare, e := tariff.FareOf(c, x)
	want(t, "FareOf "+what, fare, e, api.TariffFare{}, f)
	r, e := tariff.FareRange(c, x)
	want(t, "FareRange "+what, r, e, api.Range{}, f)
}

// TestErrorsOfRules is of P1.4: the error of a rule comes behind those of CheckTrip, segment by segment.
func TestErrorsOfRules(t *testing.T) {
	c := city()
	c.Rules[1].Zones = []int{0}
	c.Rules = append(c.Rules, api.TariffRule{Name: "noon", To: 100000, Zones: []int{1}, Days: days(), Begin: 43200, End: 43300})
	gap, clash := segment(1, 5, 100), segment(1, 6, 100)
	wantErrors(t, "a gap", c, ride(moment(0, 21500), segment(0, 1, 50), gap), api.ErrNone)
	wantErrors(t, "a clash", c, ride(moment(0, 43100), segment(0, 1, 100), clash, gap), api.ErrClash)
	wantErrors(t, "a gap behind which a segment is wrong", c, ride(moment(0, 21500), gap, segment(2, 0, 1)), api.ErrMissing)
	wantErrors(t, "a gap of a fixed fare that is none", c, api.TariffTrip{Fixed: true, Extras: []int{0}, Segments: []api.TariffSegment{gap}}, api.ErrNone)
	last := moment(api.MaxDate, 86000)
	wantErrors(t, "a beginning behind all dates", c, ride(last, segment(0, 1, 400), gap), api.ErrRange)
	rules, e := tariff.RulesOf(c, ride(last, segment(0, 1, 399), segment(0, 1, 36000)))
	want(t, "RulesOf the last second", rules, e, []int{1, 1}, api.OK)
}

// TestParts is of P1.4.
func TestParts(t *testing.T) {
	c := city()
	for _, x := range []struct {
		trip                 api.TariffTrip
		rules, points, steps []int
	}{
		{ride(moment(0, 36000), segment(0, 1000, 100)), []int{0}, []int{5000}, []int{5}},
		{ride(moment(0, 36000), segment(0, 1000, 700)), []int{0}, []int{5600}, []int{5}},
		{ride(moment(0, 36000), segment(0, 8, 5)), []int{0}, []int{40}, []int{0}}, // both the same
		{ride(moment(0, 36000), segment(0, 1000, 100), segment(1, 0, 90)), []int{0, 0}, []int{5000, 720}, []int{5, 5}},
		{ride(moment(0, 36000), segment(0, 1000, 100), segment(1, 0, 200)), []int{0, 0}, []int{5000, 1600}, []int{5, 6}},
		{ride(moment(0, 21599), segment(0, 1000, 100), segment(0, 100, 10)), []int{1, 0}, []int{6000, 500}, []int{6, 6}},
		{ride(moment(6, 86350), segment(0, 100, 50), segment(0, 100, 10)), []int{1, 1}, []int{600, 600}, []int{0, 1}},
	} {
		what := tariff.FormatTrip(x.trip)
		l, e := tariff.RulesOf(c, x.trip)
		want(t, "RulesOf "+what, l, e, x.rules, api.OK)
		l, e = tariff.PointsOf(c, x.trip)
		want(t, "PointsOf "+what, l, e, x.points, api.OK)
		l, e = tariff.StepsOf(c, x.trip)
		want(t, "StepsOf "+what, l, e, x.steps, api.OK)
	}
	l, e := tariff.PointsOf(plain(1, 1, 1, 0, 0), api.TariffTrip{Segments: []api.TariffSegment{segment(0, 99999, 36000)}})
	want(t, "PointsOf a rule that counts nothing", l, e, []int{0}, api.OK)
}

// TestCut is of P1.6.
func TestCut(t *testing.T) {
	x := ride(moment(0, 36000), segment(0, 1000, 100), segment(1, 100, 10))
	for _, y := range []struct {
		number int
		first  api.TariffSegment
		wanted []api.TariffSegment
		e      api.Errno
	}{
		{0, segment(0, 400, 90), []api.TariffSegment{segment(0, 400, 90), segment(0, 600, 10), segment(1, 100, 10)}, api.OK},
		{1, segment(1, 0, 1), []api.TariffSegment{segment(0, 1000, 100), segment(1, 0, 1), segment(1, 100, 9)}, api.OK},
		{1, segment(1, 100, 9), []api.TariffSegment{segment(0, 1000, 100), segment(1, 100, 9), segment(1, 0, 1)}, api.OK},
		{-1, segment(5, -1, 0), nil, api.ErrMissing},
		{2, segment(0, 0, 1), nil, api.ErrMissing},
		{1, segment(0, -1, 1), nil, api.ErrClash},
		{1, segment(1, -1, 1), nil, api.ErrRange},
		{1, segment(1, 101, 1), nil, api.ErrRange},
		{1, segment(1, 50, 0), nil, api.ErrRange},
		{1, segment(1, 50, 10), nil, api.ErrRange},
	} {
		cut, e := tariff.Cut(x, y.number, y.first)
		want(t, "Cut", cut.Segments, e, y.wanted, y.e)
		if e == api.OK {
			cut.Segments = x.Segments
			want(t, "the rest of the trip", cut, e, x, api.OK)
		}
	}
}

// TestCutOfAnything is of P1.6: nothing else is asked of the trip, but that there is room.
func TestCutOfAnything(t *testing.T) {
	full := api.TariffTrip{Segments: slices.Repeat([]api.TariffSegment{segment(0, 9, 9)}, 60)}
	_, e := tariff.Cut(full, 59, segment(0, 9, 8))
	wantError(t, "Cut of a full trip", e, api.ErrFull)
	_, e = tariff.Cut(full, 59, segment(0, 9, 9))
	wantError(t, "Cut of all in a full trip", e, api.ErrRange)
	full.Segments = full.Segments[1:]
	cut, e := tariff.Cut(full, 58, segment(0, 9, 8))
	want(t, "Cut of 59 segments", len(cut.Segments), e, 60, api.OK)
	odd := api.TariffTrip{At: moment(-5, -6), Fixed: true, Extras: []int{-7}, Segments: []api.TariffSegment{segment(-8, math.MaxInt, math.MaxInt)}}
	cut, e = tariff.Cut(odd, 0, segment(-8, math.MaxInt, 1))
	odd.Segments = []api.TariffSegment{segment(-8, math.MaxInt, 1), segment(-8, 0, math.MaxInt-1)}
	want(t, "Cut of an odd trip", cut, e, odd, api.OK)
	for _, seconds := range []int{math.MinInt, -1, 0, 1} {
		odd.Segments = []api.TariffSegment{segment(0, 5, seconds)}
		_, e = tariff.Cut(odd, 0, segment(0, 5, 1))
		wantError(t, "Cut of too few seconds", e, api.ErrRange)
	}
	odd.Segments = []api.TariffSegment{segment(0, -1, 10)}
	_, e = tariff.Cut(odd, 0, segment(0, 0, 1))
	wantError(t, "Cut of metres below 0", e, api.ErrRange)
}
