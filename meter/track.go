package meter

import (
	"fiacre/api"
	"fiacre/check"
)

// MetresOf returns between which metres a number of pulses lies.
func MetresOf(constant, pulses int) (api.Range, api.Errno) {
	if e := errorOfConstant(constant); e != api.OK {
		return api.Range{}, e
	}
	if !check.Within(pulses, 0, api.MaxMeterCount) {
		return api.Range{}, api.ErrRange
	}
	thousandths := metresOfKilometre * pulses
	return api.Range{Lo: thousandths / constant, Hi: quotientUp(thousandths, constant)}, api.OK
}

// PulsesFor returns how many pulses a right meter counts on a track.
func PulsesFor(constant, metres, permille int) (api.Range, api.Errno) {
	if e := errorOfConstant(constant); e != api.OK {
		return api.Range{}, e
	}
	if !check.Within(metres, 1, api.MaxTariffMetres) || !isPermille(permille) {
		return api.Range{}, api.ErrRange
	}
	return pulsesFor(constant, metres, permille), api.OK
}

// maxPermille is the greatest tolerance of a test.
const maxPermille = 100

func isPermille(permille int) bool { return check.Within(permille, 0, maxPermille) }

func pulsesFor(constant, metres, permille int) api.Range {
	const millionths = 1000 * metresOfKilometre
	return api.Range{
		Lo: constant * metres * (1000 - permille) / millionths,
		Hi: quotientUp(constant*metres*(1000+permille), millionths),
	}
}

// ConstantOf returns between which numbers the constants lie that explain a test.
func ConstantOf(x api.MeterTest) (api.Range, api.Errno) {
	if e := errorOfTest(x); e != api.OK {
		return api.Range{}, e
	}
	return api.Range{
		Lo: metresOfKilometre * x.Pulses / x.Metres.Hi,
		Hi: quotientUp(metresOfKilometre*(x.Pulses+1), x.Metres.Lo),
	}, api.OK
}

// TestIs returns whether a meter with a constant passed a test.
func TestIs(constant int, x api.MeterTest) (int, api.Errno) {
	if e := errorOfConstant(constant); e != api.OK {
		return 0, e
	}
	if e := errorOfTest(x); e != api.OK {
		return 0, e
	}
	short := pulsesFor(constant, x.Metres.Lo, x.Permille)
	long := pulsesFor(constant, x.Metres.Hi, x.Permille)
	switch {
	case inside(x.Pulses, short) && inside(x.Pulses, long):
		return api.AnswerYes, api.OK
	case x.Pulses < short.Lo || x.Pulses > long.Hi:
		return api.AnswerNo, api.OK
	}
	return api.AnswerMaybe, api.OK
}

func errorOfTest(x api.MeterTest) api.Errno {
	switch {
	case !check.Within(x.Metres.Lo, 1, api.MaxTariffMetres) || !check.Within(x.Metres.Hi, 1, api.MaxTariffMetres):
		return api.ErrRange
	case x.Metres.Lo > x.Metres.Hi:
		return api.ErrOrder
	case !check.Within(x.Pulses, 0, api.MaxMeterCount) || !isPermille(x.Permille):
		return api.ErrRange
	}
	return api.OK
}

// quotientUp returns a / b, rounded up, of numbers that are not below 0.
func quotientUp(a, b int) int { return (a + b - 1) / b }
