package meter_test

import (
	"math"
	"testing"

	"fiacre/api"
	"fiacre/meter"
)

// twoTrips has a trip across the morning and one of no second, and then one that has not ended.
func twoTrips() api.MeterLog {
	return logOf("1000 3 21590 p5 t5 o1 p100 t1 t9 p500 t1 x0 o3 p9 t20 s0 x0 o0 p9 t7 o1 o3 o0 t1 o1 p900 t1")
}

// TestTripsOf is of P2.3.
func TestTripsOf(t *testing.T) {
	first := api.MeterTrip{First: 2, Last: 14, At: api.Moment{Date: 3, Time: 21595}, Start: 450, Steps: 3, Extras: []int{2}, Fare: 680}
	second := api.MeterTrip{First: 17, Last: 19, At: api.Moment{Date: 3, Time: 21633}, Start: 350, Extras: []int{0}, Fare: 350}
	trips, e := meter.TripsOf(city(), twoTrips())
	want(t, "TripsOf", trips, e, []api.MeterTrip{first, second}, api.OK)
	cents, e := meter.Takings(city(), twoTrips())
	want(t, "Takings", cents, e, 1030, api.OK)
	trips, e = meter.TripsOf(city(), ten("o1 p9 o3"))
	want(t, "TripsOf one that has not ended", trips, e, nil, api.OK)
	cents, e = meter.Takings(city(), ten(""))
	want(t, "Takings of nothing", cents, e, 0, api.OK)
	trips, e = meter.TripsOf(city(), logOf("1000 0 86399 t1 o1 o3 o0"))
	want(t, "TripsOf behind midnight", trips, e, []api.MeterTrip{{First: 1, Last: 3, At: api.Moment{Date: 1}, Start: 450, Extras: []int{0}, Fare: 450}}, api.OK)
	_, e = meter.TripsOf(city(), ten("o1 o0"))
	wantError(t, "TripsOf a wrong log", e, api.ErrState)
	_, e = meter.Takings(broken(), ten("o1 o0"))
	wantError(t, "Takings by a wrong tariff", e, api.ErrRange)
}

// TestTakingsLarge is of P2.3.
func TestTakingsLarge(t *testing.T) {
	c := plain(1, 1000, 0, 500000, 0)
	cents, e := meter.Takings(c, ten("o1 p1 o3 o0 o1 p1 o3 o0"))
	want(t, "Takings of all money", cents, e, api.MaxMoney, api.OK)
	c.Rules[0].Start = 1
	cents, e = meter.Takings(c, ten("o1 p1 o3 o0 o1 p1 o3 o0"))
	want(t, "Takings of more money", cents, e, 0, api.ErrLarge)
}

// TestCountsOf is of P2.3.
func TestCountsOf(t *testing.T) {
	free := plain(1000, 10, 350, 0, 8)
	for _, x := range []struct {
		what   string
		c      api.Tariff
		l      api.MeterLog
		trip   int
		counts []api.MeterCount
		e      api.Errno
	}{
		{"the example", city(), ten("o1 p10 t1 p10 t1 t98 o3 s360 o0"), 0, []api.MeterCount{{Pulses: 20, Seconds: 98}}, api.OK},
		{"two rules", city(), twoTrips(), 0, []api.MeterCount{{Rule: 0, Pulses: 500, Seconds: 5}, {Rule: 1, Pulses: 100, Seconds: 4}}, api.OK},
		{"no second", city(), twoTrips(), 1, nil, api.OK},
		{"one that has not ended", city(), twoTrips(), 2, nil, api.ErrMissing},
		{"one below 0", city(), twoTrips(), -1, nil, api.ErrMissing},
		{"none", city(), ten(""), 0, nil, api.ErrMissing},
		{"as many pulses as a second", city(), logOf("5000 0 36000 o1 p8 t1 o3 o0"), 0, []api.MeterCount{{Seconds: 1}}, api.OK},
		{"a pulse more", city(), logOf("5000 0 36000 o1 p9 t1 o3 o0"), 0, []api.MeterCount{{Pulses: 9}}, api.OK},
		{"stopped", city(), ten("o1 o2 p1 t5 p2 o3 p4 o0"), 0, []api.MeterCount{{Pulses: 3}}, api.OK},
		{"ticks in stopped alone", city(), ten("o1 o2 t5 o3 o0"), 0, nil, api.OK},
		{"pulses ahead of a zone", harbour(), ten("o1 p1 z1 p2 z0 z1 p4 t1 p1 t1 o3 p3 o0"), 0, []api.MeterCount{{Rule: 0, Pulses: 1}, {Rule: 1, Pulses: 6, Seconds: 1}}, api.OK},
		{"a rule that counts no metres", free, ten("o1 p5 t1 p9 z0 o2 p7 t1 o3 o0"), 0, []api.MeterCount{{Pulses: 16, Seconds: 1}}, api.OK},
		{"a rule that counts nothing", plain(1, 1, 1, 0, 0), ten("o1 p5 t3 o3 o0"), 0, []api.MeterCount{{Seconds: 3}}, api.OK},
		{"a wrong log", city(), ten("o2"), -1, nil, api.ErrState},
	} {
		counts, e := meter.CountsOf(x.c, x.l, x.trip)
		want(t, "CountsOf "+x.what, counts, e, x.counts, x.e)
	}
}

// TestStepsOfCounts is of P2.3.
func TestStepsOfCounts(t *testing.T) {
	most := plain(1, 0, 0, 1000000, 1000000)
	all := city()
	for i := range 10 {
		all.Rules = append(all.Rules, all.Rules[0])
		all.Rules[2+i].Name = "r" + string(rune('a'+i))
	}
	var twelve []api.MeterCount
	for i := range 12 {
		twelve = append(twelve, api.MeterCount{Rule: i, Pulses: 100})
	}
	for _, x := range []struct {
		what     string
		c        api.Tariff
		constant int
		l        []api.MeterCount
		steps    int
		e        api.Errno
	}{
		{"nothing", city(), 1, nil, 0, api.OK},
		{"the example", city(), 1000, []api.MeterCount{{Pulses: 20, Seconds: 98}}, 0, api.OK},
		{"a step", city(), 1000, []api.MeterCount{{Pulses: 200}}, 1, api.OK},
		{"almost a step", city(), 1000, []api.MeterCount{{Pulses: 100}, {Rule: 1, Seconds: 62}}, 0, api.OK},
		{"a step together", city(), 1000, []api.MeterCount{{Pulses: 100}, {Rule: 1, Seconds: 63}}, 1, api.OK},
		{"another constant", city(), 500, []api.MeterCount{{Pulses: 100}}, 1, api.OK},
		{"most of all", most, 100000, []api.MeterCount{{Pulses: 20000000, Seconds: 1000000}}, 1200000000000, api.OK},
		{"most of all, and the least constant", most, 1, []api.MeterCount{{Pulses: 20000000}}, 20000000000000000, api.OK},
		{"twelve", all, 1000, twelve, 6, api.OK},
		{"a wrong tariff", broken(), 0, nil, 0, api.ErrRange},
		{"the constant 0", city(), 0, []api.MeterCount{{Rule: 2}}, 0, api.ErrRange},
		{"too great a constant", city(), 100001, nil, 0, api.ErrRange},
		{"thirteen", city(), 1, make([]api.MeterCount, 13), 0, api.ErrLarge},
		{"no rule", city(), 1, []api.MeterCount{{Rule: 2, Pulses: -1}}, 0, api.ErrMissing},
		{"a rule below 0", city(), 1, []api.MeterCount{{Rule: 1}, {Rule: -1}}, 0, api.ErrMissing},
		{"a rule twice", city(), 1, []api.MeterCount{{}, {Pulses: -1}}, 0, api.ErrOrder},
		{"rules that fall", city(), 1, []api.MeterCount{{Rule: 1}, {}}, 0, api.ErrOrder},
		{"the first error", city(), 1, []api.MeterCount{{Seconds: -1}, {Rule: 2}}, 0, api.ErrRange},
		{"pulses below 0", city(), 1, []api.MeterCount{{Pulses: -1}}, 0, api.ErrRange},
		{"too many pulses", city(), 1, []api.MeterCount{{Pulses: 20000001}}, 0, api.ErrRange},
		{"seconds below 0", city(), 1, []api.MeterCount{{Seconds: math.MinInt}}, 0, api.ErrRange},
		{"too many seconds", city(), 1, []api.MeterCount{{Seconds: 1000001}}, 0, api.ErrRange},
	} {
		steps, e := meter.StepsOfCounts(x.c, x.constant, x.l)
		want(t, "StepsOfCounts of "+x.what, steps, e, x.steps, x.e)
	}
	_, e := meter.StepsOfCounts(must("tariff a 1 1;zone a"), 1, []api.MeterCount{{}})
	wantError(t, "StepsOfCounts without rules", e, api.ErrMissing)
}

// TestTripOf is of P2.4.
func TestTripOf(t *testing.T) {
	for _, x := range []struct {
		what     string
		c        api.Tariff
		l        string
		segments []api.TariffSegment
	}{
		{"the example", city(), "1000 0 36000 o1 p10 t1 p10 t1 t98 o3 s360 o0", []api.TariffSegment{{Metres: 20, Seconds: 2}, {Seconds: 98}}},
		{"ticks of one event, the first with pulses", city(), "500 0 36000 o1 p1 t3 p1 t1 o3 o0",
			[]api.TariffSegment{{Metres: 2, Seconds: 1}, {Seconds: 2}, {Metres: 2, Seconds: 1}}},
		{"metres that are whole together", city(), "2000 0 36000 o1 p1 t1 p1 t1 o3 o0", []api.TariffSegment{{Metres: 1, Seconds: 2}}},
		{"two rules", city(), "1000 0 21590 o1 t15 o3 o0", []api.TariffSegment{{Seconds: 10}, {Seconds: 5}}},
		{"two zones", harbour(), "1000 0 36000 o1 t3 z1 t4 z0 t5 o3 o0", []api.TariffSegment{{Seconds: 3}, {Zone: 1, Seconds: 4}, {Seconds: 5}}},
		{"a zone of no tick", harbour(), "1000 0 36000 o1 t3 z1 z0 t5 o3 o0", []api.TariffSegment{{Seconds: 8}}},
		{"cash of no tick", city(), "1000 0 36000 o1 t3 x0 s0 c0 o3 p5 o1 t5 o3 o0", []api.TariffSegment{{Seconds: 8}}},
		{"stopped of no tick", city(), "1000 0 36000 o1 t3 o2 o1 t5 o3 o0", []api.TariffSegment{{Seconds: 8}}},
		{"ticks in cash behind all others", city(), "1000 0 36000 o1 t3 o3 p5 t9 z1 p5 o1 z0 o3 p9 o0", []api.TariffSegment{{Seconds: 3}}},
		{"another zone from the beginning on", harbour(), "1000 0 36000 p7 z1 p7 o1 t3 o3 o0", []api.TariffSegment{{Zone: 1, Seconds: 3}}},
		{"60 segments", city(), "1000 0 36000 o1 " + many("p1 t1 t1", 30) + " o3 o0", segments(60)},
	} {
		l := logOf(x.l)
		y, e := meter.TripOf(x.c, l, 0)
		want(t, "TripOf "+x.what, y.Segments, e, x.segments, api.OK)
		want(t, "its moment", y.At, e, l.At, api.OK)
		want(t, "whether it is fixed", y.Fixed, e, false, api.OK)
	}
	y, e := meter.TripOf(city(), logOf("1000 3 86390 o1 t1 o3 o0 t10 o1 x0 t2 o3 x0 o0"), 1)
	want(t, "TripOf the second one", y, e, api.TariffTrip{At: api.Moment{Date: 4, Time: 1}, Extras: []int{2}, Segments: []api.TariffSegment{{Seconds: 2}}}, api.OK)
}

// segments returns segments of a second each, every other one with a metre.
func segments(n int) []api.TariffSegment {
	var l []api.TariffSegment
	for i := range n {
		l = append(l, api.TariffSegment{Metres: 1 - i%2, Seconds: 1})
	}
	return l
}

// TestTripOfErrors is of P2.4.
func TestTripOfErrors(t *testing.T) {
	for _, x := range []struct {
		what string
		l    string
		trip int
		e    api.Errno
	}{
		{"a wrong log", "1000 0 36000 o3", -1, api.ErrState},
		{"one below 0", "1000 0 36000 o1 t1 o3 o0", -1, api.ErrMissing},
		{"none", "1000 0 36000 o1 t1 o3 o0", 1, api.ErrMissing},
		{"one that has not ended", "1000 0 36000 o1 t1 o3", 0, api.ErrMissing},
		{"a tick in stopped", "1000 0 36000 o1 t1 o2 t1 o3 o0", 0, api.ErrState},
		{"pulses in stopped", "1000 0 36000 o1 t1 o2 p1 o3 o0", 0, api.ErrState},
		{"pulses and a tick in stopped, behind all else", "3000 0 36000 o1 z1 p1 t1 p1 o3 t1 o1 t1 o2 p1 t1 o3 o0", 0, api.ErrState},
		{"pulses ahead of a position", "1000 0 36000 o1 t1 p1 o3 o0", 0, api.ErrOpen},
		{"pulses ahead of stopped", "1000 0 36000 o1 t1 p1 o2 o3 o0", 0, api.ErrOpen},
		{"pulses ahead of a zone", "1000 0 36000 o1 t1 p1 z0 t1 o3 o0", 0, api.ErrOpen},
		{"a rest in cash", "1000 0 36000 o1 t1 o3 t1 o1 t1 o3 o0", 0, api.ErrOpen},
		{"a rest ahead of all", "1000 0 36000 o1 o3 t1 o1 t1 o3 o0", 0, api.ErrOpen},
		{"pulses ahead of a zone, in another one", "3000 0 36000 o1 z1 p1 t1 p1 z0 t1 o3 o0", 0, api.ErrOpen},
		{"another zone than at the beginning", "3000 0 36000 o1 z1 p1 t1 o3 o0", 0, api.ErrClash},
		{"metres that are not whole", "3000 0 36000 o1 p1 t1 o3 o0", 0, api.ErrForm},
		{"metres that are not whole, in too many segments", "3000 0 36000 o1 " + many("p3 t1 t1", 30) + " p1 t1 o3 o0", 0, api.ErrForm},
		{"no ticks", "1000 0 36000 o1 o3 o0", 0, api.ErrNone},
		{"ticks in cash alone", "1000 0 36000 o1 o3 t5 p5 o0", 0, api.ErrNone},
		{"61 segments", "1000 0 36000 o1 " + many("p1 t1 t1", 30) + " p1 t1 o3 o0", 0, api.ErrLarge},
		{"most metres", "1000 0 36000 o1 p100000 t1 o3 o0", 0, api.OK},
		{"too many metres", "1000 0 36000 o1 p60000 p40001 t1 o3 o0", 0, api.ErrLarge},
		{"too many metres together", "1000 0 36000 o1 p50001 t1 p50001 t1 o3 o0", 0, api.ErrLarge},
		{"most seconds", "1000 0 36000 o1 " + many("t3600", 10) + " o3 o0", 0, api.OK},
		{"too many seconds", "1000 0 36000 o1 " + many("t3600", 10) + " t1 o3 o0", 0, api.ErrLarge},
	} {
		y, e := meter.TripOf(city(), logOf(x.l), x.trip)
		wantError(t, "TripOf "+x.what, e, x.e)
		if e != api.OK {
			want(t, "beside it", y, e, api.TariffTrip{}, e)
		}
	}
	free := plain(1000, 10, 350, 0, 8)
	_, e := meter.TripOf(free, ten("o1 t1 p1 o3 o0"), 0)
	wantError(t, "TripOf with pulses that cost nothing", e, api.ErrOpen)
	_, e = meter.TripOf(broken(), ten("o3"), 0)
	wantError(t, "TripOf by a wrong tariff", e, api.ErrRange)
}
