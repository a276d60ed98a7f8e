package meter_test

import (
	"math"
	"testing"

	"fiacre/api"
	"fiacre/meter"
)

// TestCheckLogAlone is of P2.1: the errors of a log alone.
func TestCheckLogAlone(t *testing.T) {
	for _, x := range []struct {
		what  string
		l     api.MeterLog
		event int
		e     api.Errno
	}{
		{"no events", logOf("1 0 0"), 0, api.OK},
		{"the greatest constant", logOf("100000 100000 86399"), 0, api.OK},
		{"the constant 0", logOf("0 0 0"), 0, api.ErrRange},
		{"too great a constant", logOf("100001 0 0"), 0, api.ErrRange},
		{"no date", logOf("1000 100001 0 p0"), 0, api.ErrRange},
		{"a date below 0", logOf("1000 -1 0"), 0, api.ErrRange},
		{"no time", logOf("1000 0 86400"), 0, api.ErrRange},
		{"200 events", ten(many("t3600", 200)), 0, api.OK},
		{"201 events, one of no kind", ten(many("s0", 200) + " p0"), 0, api.ErrLarge},
		{"a kind below 0", api.MeterLog{Constant: 1, Events: []api.MeterEvent{{N: 1}, {Kind: -1}}}, 1, api.ErrKind},
		{"a kind above all", api.MeterLog{Constant: 1, Events: []api.MeterEvent{{N: 1}, {N: 1}, {Kind: 7}}}, 2, api.ErrKind},
		{"a number ahead of a kind", api.MeterLog{Constant: 1, Events: []api.MeterEvent{{N: 0}, {Kind: 7}}}, 0, api.ErrRange},
		{"no pulses", ten("p1 p0"), 1, api.ErrRange},
		{"most pulses", ten("p100000"), 0, api.OK},
		{"too many pulses", ten("p100001"), 0, api.ErrRange},
		{"no ticks", ten("p1 t0"), 1, api.ErrRange},
		{"most ticks", ten("t3600"), 0, api.OK},
		{"too many ticks", ten("p1 t3601"), 1, api.ErrRange},
		{"no position", ten("o1 o4"), 1, api.ErrRange},
		{"most money", ten("s1000000000"), 0, api.OK},
		{"too much money", ten("s1000000001"), 0, api.ErrRange},
		{"no zone that there may be", ten("z1000000001"), 0, api.ErrRange},
		{"no supplement that there may be", ten("o1 x1000000001"), 1, api.ErrRange},
		{"the greatest seal", ten("c998244352"), 0, api.OK},
		{"no seal", ten("c998244353"), 0, api.ErrRange},
		{"a number below 0", api.MeterLog{Constant: 1, Events: []api.MeterEvent{{Kind: api.MeterShow, N: -1}}}, 0, api.ErrRange},
		{"what is not possible, ahead of what never is", ten("o3 z7 p0"), 2, api.ErrRange},
	} {
		event, e := meter.CheckLog(city(), x.l)
		want(t, "CheckLog with "+x.what, event, e, x.event, x.e)
		if e == api.ErrKind || e == api.ErrLarge || e == api.ErrRange {
			_, e = meter.SumOf(x.l, -1)
			wantError(t, "SumOf with "+x.what, e, x.e)
		}
	}
	event, e := meter.CheckLog(broken(), logOf("0 -1 0 p0"))
	want(t, "CheckLog with a wrong tariff", event, e, 0, api.ErrRange)
	wrong := city()
	wrong.Zones = nil
	event, e = meter.CheckLog(wrong, logOf("0 -1 0 p0"))
	want(t, "CheckLog without zones", event, e, 0, api.ErrShape)
}

// TestCheckLogEvents is of P2.1: what is not possible behind the events so far.
func TestCheckLogEvents(t *testing.T) {
	for _, x := range []struct {
		l     string
		event int
		e     api.Errno
	}{
		{"o1 p10 t1 p10 t1 t98 o3 s360 o0", 0, api.OK},
		{"o1 o2 o1 o3 o1 o2 o3 o0 o1", 0, api.OK},
		{"o0", 0, api.ErrState}, {"o2", 0, api.ErrState}, {"o3", 0, api.ErrState},
		{"o1 o1", 1, api.ErrState}, {"o1 o0", 1, api.ErrState},
		{"o1 o2 o2", 2, api.ErrState}, {"o1 o2 o0", 2, api.ErrState},
		{"o1 o3 o3", 2, api.ErrState}, {"o1 o3 o2", 2, api.ErrState},
		{"z1 z0 z1", 0, api.OK}, {"z1 z2", 1, api.ErrMissing},
		{"x0", 0, api.ErrState}, {"x1", 0, api.ErrMissing}, {"o1 x1", 1, api.ErrMissing},
		{"o1 x0 o2 x0 o3 x0 o0", 0, api.OK}, {"o1 x0 o3 o0 x0", 4, api.ErrState},
		{"o1 " + many("x0", 20) + " o3 o0 o1 " + many("x0", 20), 0, api.OK},
		{"o1 " + many("x0", 21), 21, api.ErrFull},
		{"z1 z2 o3", 1, api.ErrMissing},
	} {
		event, e := meter.CheckLog(city(), ten(x.l))
		want(t, "CheckLog of "+x.l, event, e, x.event, x.e)
	}
	dogs := harbour()
	event, e := meter.CheckLog(dogs, ten("o1 "+many("x0", 20)+" "+many("x1", 20)))
	want(t, "CheckLog of two supplements", event, e, 0, api.OK)
}

// TestCheckLogRules is of P2.1: a rule is asked for in hired and stopped alone.
func TestCheckLogRules(t *testing.T) {
	for _, x := range []struct {
		l     string
		event int
		e     api.Errno
	}{
		{"1000 0 69999 z1 o1", 0, api.OK},
		{"1000 0 70000 z1 o1", 1, api.ErrNone},
		{"1000 0 70000 o1", 0, api.OK},
		{"1000 0 80000 o1", 0, api.ErrClash},
		{"1000 0 80000 z1 z0 t100 p5 z1 p5 z0 t1", 0, api.OK},
		{"1000 0 69990 z1 o1 t10", 0, api.OK},
		{"1000 0 69990 z1 o1 t11", 2, api.ErrNone},
		{"1000 0 69990 z1 o1 o2 t10 t1", 4, api.ErrNone},
		{"1000 0 69990 z1 o1 t10 o2 o1 o3 t99 o0 t1", 0, api.OK},
		{"1000 0 69990 z1 o1 t10 p1 o3", 4, api.ErrNone},
		{"1000 0 69990 z1 o1 o2 t10 p1 z0", 5, api.ErrNone},
		{"1000 0 69990 z1 o1 t10 z0 p1 t1", 0, api.OK},
		{"1000 0 69990 z1 o1 t10 p1 z2", 4, api.ErrMissing},
		{"1000 0 69990 z1 o1 t10 p1 o1", 4, api.ErrState},
		{"1000 0 69990 z1 o1 o3 t10 p1 o1", 0, api.OK},
		{"1000 0 69990 z1 p1 t10 p1 o1", 4, api.ErrNone},
		{"1000 0 79999 o1 t1", 0, api.OK},
		{"1000 0 79999 o1 t2", 1, api.ErrClash},
		{"1000 0 79999 o1 t1 p1 z1", 3, api.ErrClash},
		{"1000 100000 70000 t3600 t3600 t3600 t3600 t1999 t1 p1 z1 t3600", 0, api.OK},
		{"1000 100000 86399 t1 o1", 1, api.ErrRange},
		{"1000 100000 86399 z1 z0 t1 o1", 3, api.ErrRange},
	} {
		event, e := meter.CheckLog(harbour(), logOf(x.l))
		want(t, "CheckLog of "+x.l, event, e, x.event, x.e)
	}
	for _, x := range []struct {
		l     string
		event int
		e     api.Errno
	}{
		{"1000 100000 86390 o1 t10 o2 o3 t5 o0", 0, api.OK},
		{"1000 100000 86390 o1 t11", 1, api.ErrRange},
		{"1000 100000 86390 o1 o2 t11", 2, api.ErrRange},
		{"1000 100000 86390 o1 t10 p1 o3", 3, api.ErrRange},
		{"1000 100000 86390 o1 t10 p1 z0", 3, api.ErrRange},
		{"1000 100000 86390 o1 t10 p1 z1", 3, api.ErrMissing},
	} {
		event, e := meter.CheckLog(plain(1000, 10, 0, 5, 8), logOf(x.l))
		want(t, "CheckLog of "+x.l, event, e, x.event, x.e)
	}
}

// TestCheckLogLarge is of P2.1.
func TestCheckLogLarge(t *testing.T) {
	for _, x := range []struct {
		what  string
		c     api.Tariff
		l     string
		event int
		e     api.Errno
	}{
		{"all money by pulses", plain(1, 1000, 0, 1000000, 0), "1000 0 0 o1 p1 t1 o3 o0", 0, api.OK},
		{"more money by pulses", plain(1, 1000, 1, 1000000, 0), "1000 0 0 o1 p1 t1 o3 o0", 2, api.ErrLarge},
		{"more money by pulses ahead of a position", plain(1, 1000, 1, 1000000, 0), "1000 0 0 o1 p1 o3 o0", 2, api.ErrLarge},
		{"more money by pulses ahead of a zone", plain(1, 1000, 1, 1000000, 0), "1000 0 0 o1 p1 z0", 2, api.ErrLarge},
		{"more money by pulses in stopped", plain(1, 1000, 1, 1000000, 0), "1000 0 0 o1 o2 p1 t1", 3, api.ErrLarge},
		{"all money, and pulses in cash", plain(1, 1000, 0, 1000000, 0), "1000 0 0 o1 p1 o3 p9 t1 o0", 0, api.OK},
		{"all money, and a supplement", plain(1, 1000, 0, 1000000, 0), "1000 0 0 o1 p1 t1 s0 x0", 4, api.ErrLarge},
		{"all money by ticks", plain(1, 1000, 0, 0, 1000), "1000 0 0 o1 t1000 o3", 0, api.OK},
		{"more money by ticks", plain(1, 1000, 0, 0, 1000), "1000 0 0 o1 t1001 o3", 1, api.ErrLarge},
		{"more money than an int holds", plain(1, 100000, 0, 1000000, 0), "1 0 0 o1 " + many("p100000", 197) + " t1", 198, api.ErrLarge},
		{"steps without money", plain(1, 0, 0, 1000000, 1000000), "1 0 0 o1 " + many("p100000", 197) + " t3600", 0, api.OK},
	} {
		event, e := meter.CheckLog(x.c, logOf(x.l))
		want(t, "CheckLog of "+x.what, event, e, x.event, x.e)
	}
}

// TestStateOf is of P2.2, by the document's example.
func TestStateOf(t *testing.T) {
	l := ten("p3 z1 p4 o1 p10 t1 x0 p10 t1 p2 t98 z0 o2 p300 t2 p7 o3 p8 t1 p9 o0 p6")
	for events, wanted := range []api.MeterState{
		{},
		{Pulses: 3, Since: 3},
		{Pulses: 3, Zone: 1},
		{Pulses: 7, Zone: 1, Since: 4},
		{Pulses: 7, Zone: 1, Position: 1, Extras: []int{0}, Fare: 350},
		{Pulses: 17, Zone: 1, Position: 1, Since: 10, Extras: []int{0}, Fare: 350},
		{Ticks: 1, Pulses: 17, Zone: 1, Position: 1, Extras: []int{0}, Fare: 350},
		{Ticks: 1, Pulses: 17, Zone: 1, Position: 1, Extras: []int{1}, Fare: 450},
		{Ticks: 1, Pulses: 27, Zone: 1, Position: 1, Since: 10, Extras: []int{1}, Fare: 450},
		{Ticks: 2, Pulses: 27, Zone: 1, Position: 1, Extras: []int{1}, Fare: 450},
		{Ticks: 2, Pulses: 29, Zone: 1, Position: 1, Since: 2, Extras: []int{1}, Fare: 450},
		// 50000 + 50000 + 10000 and 97 times 8000 are 886000 parts.
		{Ticks: 100, Pulses: 29, Zone: 1, Position: 1, Extras: []int{1}, Fare: 450},
		{Ticks: 100, Pulses: 29, Position: 1, Extras: []int{1}, Fare: 450},
		{Ticks: 100, Pulses: 29, Position: 2, Extras: []int{1}, Fare: 450},
		{Ticks: 100, Pulses: 329, Position: 2, Since: 300, Extras: []int{1}, Fare: 450},
		{Ticks: 102, Pulses: 329, Position: 2, Steps: 2, Extras: []int{1}, Fare: 470},
		{Ticks: 102, Pulses: 336, Position: 2, Since: 7, Steps: 2, Extras: []int{1}, Fare: 470},
		{Ticks: 102, Pulses: 336, Position: 3, Steps: 2, Extras: []int{1}, Fare: 470},
		{Ticks: 102, Pulses: 344, Position: 3, Since: 8, Steps: 2, Extras: []int{1}, Fare: 470},
		{Ticks: 103, Pulses: 344, Position: 3, Steps: 2, Extras: []int{1}, Fare: 470},
		{Ticks: 103, Pulses: 353, Position: 3, Since: 9, Steps: 2, Extras: []int{1}, Fare: 470},
		{Ticks: 103, Pulses: 353},
		{Ticks: 103, Pulses: 359, Since: 6},
	} {
		s, e := meter.StateOf(city(), l, events)
		want(t, "StateOf "+text(api.MeterLog{Events: l.Events[:events]}), s, e, wanted, api.OK)
	}
	for _, events := range []int{-1, 23, math.MinInt, math.MaxInt} {
		s, e := meter.StateOf(city(), l, events)
		want(t, "StateOf out of the log", s, e, api.MeterState{}, api.ErrRange)
	}
	_, e := meter.StateOf(city(), ten("o1 o0 p1"), -1)
	wantError(t, "StateOf a wrong log", e, api.ErrState)
	_, e = meter.StateOf(city(), ten("o1 o0 p1"), 1)
	wantError(t, "StateOf the beginning of a wrong log", e, api.ErrState)
}

// TestStateExamples is of P2.2: what the fare is behind all events.
func TestStateExamples(t *testing.T) {
	for _, x := range []struct {
		what, l     string
		steps, fare int
	}{
		{"884000 parts", "1000 0 36000 o1 p10 t1 p10 t1 t98", 0, 350},
		{"seconds in stopped", "1000 0 36000 o1 p10 t1 p10 t1 o2 t98", 0, 350},
		{"pulses in stopped", "1000 0 36000 o1 p10 t1 p10 t1 o2 " + many("p50 t1", 5), 1, 360},
		{"two rules", "1000 0 21599 o1 p1000 t1 p1000 t1", 11, 560},
		{"the beginning's start", "1000 0 21599 t1 o1 p1000 t1 p1000 t1", 10, 450},
		{"pulses ahead of cash as distance", "1000 0 36000 o1 p200 o3", 1, 360},
		{"pulses ahead of cash, by the rule of then", "1000 0 21599 o1 t1 p400 o3", 2, 470},
		{"pulses of free not counted", "1000 0 36000 p999 o1 p199 t1", 0, 350},
		{"pulses of cash not counted", "1000 0 36000 o1 o3 p999 t5 p999 o1 p199 t1", 0, 350},
		{"as many pulses as a second", "5000 0 36000 o1 p8 t125", 1, 360},
		{"another constant", "500 0 36000 o1 p100 t1", 1, 360},
		{"one part too few", "500 0 36000 o1 p99 t1", 0, 350},
		{"a second trip begins anew", "1000 0 36000 o1 p999 x0 o3 o0 o1 p200 t1", 1, 360},
	} {
		l := logOf(x.l)
		s, e := meter.StateOf(city(), l, len(l.Events))
		want(t, "StateOf with "+x.what, [2]int{s.Steps, s.Fare}, e, [2]int{x.steps, x.fare}, api.OK)
	}
	l := ten("o1 p100 z1 p100 t1")
	s, e := meter.StateOf(harbour(), l, len(l.Events))
	want(t, "StateOf with a zone within a second", [2]int{s.Steps, s.Fare}, e, [2]int{1, 360}, api.OK)
	s, e = meter.StateOf(harbour(), l, 3)
	want(t, "StateOf behind the zone", [3]int{s.Since, s.Steps, s.Fare}, e, [3]int{0, 0, 350}, api.OK)
	s, e = meter.StateOf(plain(1, 0, 5, 1000000, 1000000), logOf("1 0 0 o1 "+many("p100000", 197)+" t3600"), 199)
	want(t, "StateOf with most steps", [2]int{s.Steps, s.Fare}, e, [2]int{19700000*1000*1000000 + 3599*1000000, 5}, api.OK)
	s, e = meter.StateOf(must("tariff a 1 1;zone a;rule a 0 9 a 0 0 0 7 0 0"), logOf("1 0 0 o1"), 1)
	want(t, "StateOf without supplements", s, e, api.MeterState{Position: 1, Fare: 7}, api.OK)
}
