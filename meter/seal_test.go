package meter_test

import (
	"math"
	"strings"
	"testing"

	"fiacre/api"
	"fiacre/meter"
)

// TestSplit is of P2.5.
func TestSplit(t *testing.T) {
	full := many("p9", 200)
	for _, x := range []struct {
		l            string
		event, first int
		wanted       string
		e            api.Errno
	}{
		{"o1 p10 t1", 1, 4, "o1 p4 p6 t1", api.OK},
		{"o1 p10 t5", 2, 4, "o1 p10 t4 t1", api.OK},
		{"p2", 0, 1, "p1 p1", api.OK},
		{"o3 z9 p2", 2, 1, "o3 z9 p1 p1", api.OK}, // no more than a log alone
		{"o1 p10 t5", 3, 4, "", api.ErrMissing},
		{"o1 p10 t5", -1, 4, "", api.ErrMissing},
		{"", 0, 1, "", api.ErrMissing},
		{"o1 p10 t5", 0, 0, "", api.ErrKind},
		{"s10", 0, 5, "", api.ErrKind},
		{"o1 p10 t5", 1, 0, "", api.ErrRange},
		{"o1 p10 t5", 1, 10, "", api.ErrRange},
		{"o1 p1 t5", 1, 1, "", api.ErrRange},
		{"o1 p10 t5", 1, math.MinInt, "", api.ErrRange},
		{full, 5, 9, "", api.ErrRange},
		{full, 5, 1, "", api.ErrFull},
		{full[3:], 198, 1, full[6:] + " p1 p8", api.OK},
		{"p0", 5, 5, "", api.ErrRange},
	} {
		l, e := meter.Split(ten(x.l), x.event, x.first)
		wanted := api.MeterLog{}
		if x.e == api.OK {
			wanted = ten(x.wanted)
		}
		want(t, "Split of "+x.l, l, e, wanted, x.e)
	}
	_, e := meter.Split(api.MeterLog{Constant: 1, Events: []api.MeterEvent{{Kind: 9}}}, 5, 5)
	wantError(t, "Split of a wrong log", e, api.ErrKind)
}

// TestMerged is of P2.5.
func TestMerged(t *testing.T) {
	for _, x := range [][2]string{
		{"", ""},
		{"p1", "p1"},
		{"o1 p10 t1 p10 t1 t98 o3 s360 o0", "o1 p10 t1 p10 t99 o3 s360 o0"},
		{"p1 p2 p3 t1 t2 p4 p5", "p6 t3 p9"},
		{"p1 s0 p2 c0 t1 o1 t2", "p1 s0 p2 c0 t1 o1 t2"},
		{"o1 o1 z0 z0 x0 x0 s5 s5 c1 c1", "o1 o1 z0 z0 x0 x0 s5 s5 c1 c1"},
		{"p60000 p40000 p1", "p100000 p1"},
		{"p60000 p40001 p30000", "p60000 p70001"},
		{"p60000 p50000 p50000 p1", "p60000 p100000 p1"},
		{"t3600 t1 t3599 t1", "t3600 t3600 t1"},
	} {
		l, e := meter.Merged(ten(x[0]))
		want(t, "Merged "+x[0], l, e, ten(x[1]), api.OK)
	}
	l, e := meter.Merged(ten("p0"))
	want(t, "Merged of a wrong log", l, e, api.MeterLog{}, api.ErrRange)
	l, e = meter.Merged(logOf("0 0 0"))
	want(t, "Merged without a constant", l, e, api.MeterLog{}, api.ErrRange)
}

// TestSumOf is of P2.6.
func TestSumOf(t *testing.T) {
	l := ten("o1 s1000000000 p3")
	// (66822 257 + 5 + 1) 257 + 10^9 + 1, modulo 998244353.
	two := ((66822*257+6)*257 + 1000000001) % 998244353
	three := ((two*257+1)%998244353*257 + 4) % 998244353
	for events, sum := range []int{1, 66822, two, three} {
		got, e := meter.SumOf(l, events)
		want(t, "SumOf", got, e, sum, api.OK)
	}
	for _, events := range []int{-1, 4, math.MinInt, math.MaxInt} {
		got, e := meter.SumOf(l, events)
		want(t, "SumOf out of the log", got, e, 0, api.ErrRange)
	}
	_, e := meter.SumOf(ten("p1 p0"), 1)
	wantError(t, "SumOf a wrong log", e, api.ErrRange)
	sum, e := meter.SumOf(ten("o3 o3 z9"), 0)
	want(t, "SumOf what is not possible", sum, e, 1, api.OK)
}

// TestSealed is of P2.6.
func TestSealed(t *testing.T) {
	l, e := meter.Sealed(ten("o1"))
	want(t, "Sealed", l, e, ten("o1 c66822"), api.OK)
	l, e = meter.Sealed(ten(""))
	want(t, "Sealed of no events", l, e, ten("c1"), api.OK)
	l, e = meter.Sealed(ten(many("o1", 199)))
	want(t, "Sealed of 199 events", len(l.Events), e, 200, api.OK)
	l, e = meter.Sealed(ten(many("o1", 200)))
	want(t, "Sealed of 200 events", l, e, api.MeterLog{}, api.ErrFull)
	l, e = meter.Sealed(ten(many("o1", 201)))
	want(t, "Sealed of 201 events", l, e, api.MeterLog{}, api.ErrLarge)
	_, e = meter.Sealed(ten("t0"))
	wantError(t, "Sealed of a wrong log", e, api.ErrRange)
	l, _ = meter.Sealed(ten("o1 p5 t1 s350"))
	l, _ = meter.Sealed(l)
	_, e = meter.FirstFalse(city(), l)
	wantError(t, "FirstFalse of a log that was sealed twice", e, api.ErrNone)
}

// TestFirstFalse is of P2.6.
func TestFirstFalse(t *testing.T) {
	for _, x := range []struct {
		l      string
		wanted api.MeterFalse
		e      api.Errno
	}{
		{"o1 p10 t1 p10 t1 t98 o3 s360 o0", api.MeterFalse{Event: 7, Before: -1, Behind: -1}, api.OK},
		{"o1 p10 t1 p10 t1 t98 o3 s350 o0 s0", api.MeterFalse{}, api.ErrNone},
		{"s0 o1 s350 x0 s450 o3 s450 o0 s0", api.MeterFalse{}, api.ErrNone},
		{"o1 o3 o0 s350", api.MeterFalse{Event: 3, Before: -1, Behind: -1}, api.OK},
		{"", api.MeterFalse{}, api.ErrNone},
		{"c1", api.MeterFalse{}, api.ErrNone},
		{"c2", api.MeterFalse{Event: 0, Before: -1, Behind: -1}, api.OK},
		{"o1 c66822", api.MeterFalse{}, api.ErrNone},
		{"o1 c66821", api.MeterFalse{Event: 1, Before: -1, Behind: -1}, api.OK},
		{"c1 o1 s350 s360 c5", api.MeterFalse{Event: 3, Before: 0, Behind: 4}, api.OK},
		{"c1 o1 c5 p1 c6 c7", api.MeterFalse{Event: 2, Before: 0, Behind: 4}, api.OK},
		{"s1 c5 c6", api.MeterFalse{Event: 0, Before: -1, Behind: 1}, api.OK},
		{"s1 o2", api.MeterFalse{}, api.ErrState},
	} {
		got, e := meter.FirstFalse(city(), ten(x.l))
		want(t, "FirstFalse of "+x.l, got, e, x.wanted, x.e)
	}
	l, _ := meter.Sealed(ten("c1 o1 p5"))
	add(&l, api.MeterShow, 1)
	got, e := meter.FirstFalse(city(), l)
	want(t, "FirstFalse behind two seals", got, e, api.MeterFalse{Event: 4, Before: 3, Behind: -1}, api.OK)
	_, e = meter.FirstFalse(broken(), ten("s1"))
	wantError(t, "FirstFalse by a wrong tariff", e, api.ErrRange)
}

// TestTexts is of P2.8.
func TestTexts(t *testing.T) {
	l := api.MeterLog{Constant: -7, At: api.Moment{Date: 3, Time: -1}}
	for kind := -1; kind <= 7; kind++ {
		add(&l, kind, 5-kind)
	}
	want(t, "FormatLog", text(l), api.OK, "-7 3 -1 ?6 p5 t4 o3 z2 x1 s0 c-1 ?-2", api.OK)
	want(t, "FormatLog without events", text(api.MeterLog{}), api.OK, "0 0 0", api.OK)
	want(t, "FormatLog of the least", text(api.MeterLog{Constant: math.MinInt}), api.OK, "-9223372036854775808 0 0", api.OK)
	for _, s := range []string{"1000 0 36000", "0 -3 -9999999999", "9999999999 0 0 p0 t1 o9 z9999999999 x3 s4 c5 c6", "1 2 3 " + many("p1", 300)} {
		l, e := meter.ParseLog(s)
		want(t, "ParseLog", text(l), e, s, api.OK)
	}
	got, e := meter.ParseLog("-7 3 -1 p5 t4 o3 z2 x1 s0")
	wanted := l
	wanted.Events = l.Events[1:7]
	want(t, "ParseLog", got, e, wanted, api.OK)
	for _, s := range []string{
		"", " ", "0 36000", "1000 0", "1000 0 36000 ", " 1000 0 36000", "1000  0 36000", "1000 0 36000  p1", "1000 0 36000 p1 ",
		"1000 0 36000 p", "1000 0 36000 5", "1000 0 36000 p-1", "1000 0 36000 p01", "1000 0 36000 p+1", "1000 0 36000 p-0",
		"1000 0 36000 q1", "1000 0 36000 P1", "1000 0 36000 ?1", "1000 0 36000 -1", "1000 0 36000 p10000000000", "10000000000 0 0",
		"-0 0 0", "01 0 0", "+1 0 0", "a 0 0", "1000 0 36000\n", "1000 0\t36000", "1000 0 36000 pp1", "1000 0 36000 p1\x00", "1000 0 36000,p1",
	} {
		l, e := meter.ParseLog(s)
		want(t, "ParseLog of "+strings.ReplaceAll(s, "\n", "|"), l, e, api.MeterLog{}, api.ErrSyntax)
	}
}
