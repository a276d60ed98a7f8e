package meter_test

import (
	"math"
	"math/rand"
	"testing"

	"fiacre/api"
	"fiacre/meter"
)

// TestMetresOf is of P2.7.
func TestMetresOf(t *testing.T) {
	for _, x := range []struct {
		constant, pulses int
		metres           api.Range
		e                api.Errno
	}{
		{1000, 7, api.Range{Lo: 7, Hi: 7}, api.OK},
		{3000, 7, api.Range{Lo: 2, Hi: 3}, api.OK},
		{3000, 9, api.Range{Lo: 3, Hi: 3}, api.OK},
		{1, 0, api.Range{}, api.OK},
		{1, 20000000, api.Range{Lo: 20000000000, Hi: 20000000000}, api.OK},
		{100000, 1, api.Range{Lo: 0, Hi: 1}, api.OK},
		{0, -1, api.Range{}, api.ErrRange},
		{100001, 1, api.Range{}, api.ErrRange},
		{1000, -1, api.Range{}, api.ErrRange},
		{1000, 20000001, api.Range{}, api.ErrRange},
		{1000, math.MaxInt, api.Range{}, api.ErrRange},
	} {
		metres, e := meter.MetresOf(x.constant, x.pulses)
		want(t, "MetresOf", metres, e, x.metres, x.e)
	}
}

// TestPulsesFor is of P2.7.
func TestPulsesFor(t *testing.T) {
	for _, x := range []struct {
		constant, metres, permille int
		pulses                     api.Range
		e                          api.Errno
	}{
		{1000, 500, 10, api.Range{Lo: 495, Hi: 505}, api.OK},
		{1000, 495, 10, api.Range{Lo: 490, Hi: 500}, api.OK},
		{1000, 505, 10, api.Range{Lo: 499, Hi: 511}, api.OK},
		{1000, 505, 0, api.Range{Lo: 505, Hi: 505}, api.OK},
		{1001, 505, 0, api.Range{Lo: 505, Hi: 506}, api.OK},
		{1, 1, 100, api.Range{Lo: 0, Hi: 1}, api.OK},
		{100000, 100000, 100, api.Range{Lo: 9000000, Hi: 11000000}, api.OK},
		{0, 1, 0, api.Range{}, api.ErrRange},
		{100001, 1, 0, api.Range{}, api.ErrRange},
		{1000, 0, 0, api.Range{}, api.ErrRange},
		{1000, 100001, 0, api.Range{}, api.ErrRange},
		{1000, 1, -1, api.Range{}, api.ErrRange},
		{1000, 1, 101, api.Range{}, api.ErrRange},
	} {
		pulses, e := meter.PulsesFor(x.constant, x.metres, x.permille)
		want(t, "PulsesFor", pulses, e, x.pulses, x.e)
	}
}

func test(lo, hi, pulses, permille int) api.MeterTest {
	return api.MeterTest{Metres: api.Range{Lo: lo, Hi: hi}, Pulses: pulses, Permille: permille}
}

// TestConstantOf is of P2.7.
func TestConstantOf(t *testing.T) {
	for _, x := range []struct {
		test     api.MeterTest
		constant api.Range
		e        api.Errno
	}{
		{test(495, 505, 503, 10), api.Range{Lo: 996, Hi: 1019}, api.OK},
		{test(500, 500, 500, 0), api.Range{Lo: 1000, Hi: 1002}, api.OK},
		{test(1, 100000, 0, 100), api.Range{Lo: 0, Hi: 1000}, api.OK},
		{test(1, 1, 20000000, 0), api.Range{Lo: 20000000000, Hi: 20000001000}, api.OK},
		{test(0, 5, 5, 0), api.Range{}, api.ErrRange},
		{test(100001, 5, 5, 0), api.Range{}, api.ErrRange},
		{test(5, 100001, 5, 0), api.Range{}, api.ErrRange},
		{test(5, 0, 5, 0), api.Range{}, api.ErrRange},
		{test(6, 5, -1, 0), api.Range{}, api.ErrOrder},
		{test(5, 5, -1, 0), api.Range{}, api.ErrRange},
		{test(5, 5, 20000001, 0), api.Range{}, api.ErrRange},
		{test(5, 5, 5, -1), api.Range{}, api.ErrRange},
		{test(5, 5, 5, 101), api.Range{}, api.ErrRange},
	} {
		constant, e := meter.ConstantOf(x.test)
		want(t, "ConstantOf", constant, e, x.constant, x.e)
		answer, e := meter.TestIs(1000, x.test)
		if x.e != api.OK {
			want(t, "TestIs", answer, e, 0, x.e)
		}
	}
}

// TestTestIs is of P2.7.
func TestTestIs(t *testing.T) {
	for _, x := range []struct {
		test   api.MeterTest
		answer int
	}{
		{test(500, 500, 503, 10), api.AnswerYes},
		{test(500, 500, 494, 10), api.AnswerNo},
		{test(500, 500, 495, 10), api.AnswerYes},
		{test(500, 500, 505, 10), api.AnswerYes},
		{test(500, 500, 506, 10), api.AnswerNo},
		{test(495, 505, 503, 10), api.AnswerMaybe}, // 490 to 500, 499 to 511
		{test(495, 505, 489, 10), api.AnswerNo},
		{test(495, 505, 490, 10), api.AnswerMaybe},
		{test(495, 505, 498, 10), api.AnswerMaybe},
		{test(495, 505, 499, 10), api.AnswerYes},
		{test(495, 505, 500, 10), api.AnswerYes},
		{test(495, 505, 501, 10), api.AnswerMaybe},
		{test(495, 505, 511, 10), api.AnswerMaybe},
		{test(495, 505, 512, 10), api.AnswerNo},
		{test(100, 900, 500, 0), api.AnswerMaybe}, // between both, and in neither
		{test(1, 1, 0, 0), api.AnswerNo},
	} {
		answer, e := meter.TestIs(1000, x.test)
		want(t, "TestIs", answer, e, x.answer, api.OK)
	}
	for _, constant := range []int{0, -1, 100001} {
		_, e := meter.TestIs(constant, test(6, 5, 5, 0))
		wantError(t, "TestIs without a constant", e, api.ErrRange)
	}
}

// TestRightMeterPasses is of P2.13.
func TestRightMeterPasses(t *testing.T) {
	r := rand.New(rand.NewSource(213))
	tried, exact := 0, 0
	for range 3000 {
		constant, pulses := []int{1000, 1 + r.Intn(5000), 1 + r.Intn(100000)}[r.Intn(3)], r.Intn(20000)
		metres, e := meter.MetresOf(constant, pulses)
		wantError(t, "MetresOf", e, api.OK)
		x := api.MeterTest{Metres: metres, Pulses: pulses}
		answer, e := meter.TestIs(constant, x)
		if metres.Lo == 0 || metres.Hi > api.MaxTariffMetres {
			wantError(t, "TestIs without a track", e, api.ErrRange)
			continue
		}
		tried++
		constants, f := meter.ConstantOf(x)
		wantError(t, "TestIs and ConstantOf", max(e, f), api.OK)
		if answer == api.AnswerNo || constant < constants.Lo || constant > constants.Hi {
			t.Errorf("%d pulses of %d: %v, answer %d, constants %v", pulses, constant, metres, answer, constants)
		}
		if metres.Lo == metres.Hi {
			exact++
			want(t, "TestIs of an exact track", answer, e, api.AnswerYes, api.OK)
		}
	}
	if tried < 1000 || exact < 100 {
		t.Error("too few tracks were tried:", tried, exact)
	}
}
