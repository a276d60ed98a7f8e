package meter_test

import (
	"fmt"
	"math"
	"math/rand"
	"reflect"
	"slices"
	"testing"

	"fiacre/api"
	"fiacre/meter"
	"fiacre/tariff"
)

// A slow meter is the definitions of the chapter word by word, with a rule looked up for each tick.
type slow struct {
	c                                    api.Tariff
	l                                    api.MeterLog
	ticks, pulses, position, zone, since int
	start, parts, extras                 int
}

func (m *slow) rule() api.TariffRule {
	at, e := tariff.Later(m.l.At, m.ticks)
	if e != api.OK {
		panic(e)
	}
	rule, e := tariff.RuleAt(m.c, api.TariffPlace{Zone: m.zone, At: at})
	if e != api.OK {
		panic(e)
	}
	return m.c.Rules[rule]
}

func (m *slow) take(event api.MeterEvent) {
	counts := m.position == api.MeterHired || m.position == api.MeterStopped
	switch event.Kind {
	case api.MeterPulses:
		m.pulses, m.since = m.pulses+event.N, m.since+event.N
	case api.MeterTicks:
		for range event.N {
			if counts {
				m.parts += 1000 * m.rule().Metre * m.since
			}
			if more := m.l.Constant*m.rule().Second - 1000*m.rule().Metre*m.since; m.position == api.MeterHired && more > 0 {
				m.parts += more
			}
			m.ticks, m.since = m.ticks+1, 0
		}
	case api.MeterPut, api.MeterZone:
		if counts {
			m.parts += 1000 * m.rule().Metre * m.since
		}
		m.since = 0
		if event.Kind == api.MeterZone {
			m.zone = event.N
			return
		}
		if m.position == api.MeterFree {
			m.start, m.parts, m.extras = m.rule().Start, 0, 0
		}
		m.position = event.N
	case api.MeterExtra:
		m.extras += m.c.Extras[event.N].Amount
	}
}

func (m *slow) state() [7]int {
	steps := m.parts / (m.c.Unit * m.l.Constant)
	fare := m.start + steps*m.c.Step + m.extras
	if m.position == api.MeterFree {
		steps, fare = 0, 0
	}
	return [7]int{m.ticks, m.pulses, m.position, m.zone, m.since, steps, fare}
}

// TestSlowMeter is of P2.2.
func TestSlowMeter(t *testing.T) {
	r := rand.New(rand.NewSource(22))
	for range 30 {
		c := anyTariff(r)
		l := anyLog(r, c, 60)
		m := slow{c: c, l: l}
		for i, s := range statesOf(t, c, l) {
			got := [7]int{s.Ticks, s.Pulses, s.Position, s.Zone, s.Since, s.Steps, s.Fare}
			want(t, fmt.Sprint("StateOf ", i, " of ", text(l)), got, api.OK, m.state(), api.OK)
			if i < len(l.Events) {
				m.take(l.Events[i])
			}
		}
	}
}

// numberless returns trips without the numbers of their events, which messages that are split or merged change.
func numberless(trips []api.MeterTrip) []api.MeterTrip {
	for i := range trips {
		trips[i].First, trips[i].Last = 0, 0
	}
	return trips
}

// TestCutAnyhow is of P2.9.
func TestCutAnyhow(t *testing.T) {
	r := rand.New(rand.NewSource(29))
	split, merged := 0, 0
	for range 200 {
		c := anyTariff(r)
		l := anyLog(r, c, 30)
		other, e := meter.Merged(l)
		if r.Intn(2) == 0 {
			event := r.Intn(len(l.Events))
			other, e = meter.Split(l, event, 1+r.Intn(max(1, l.Events[event].N-1)))
			if e != api.OK {
				continue
			}
			split++
		} else if len(other.Events) < len(l.Events) {
			merged++
		}
		wantError(t, "Split or Merged", e, api.OK)
		states := map[[2]int][]api.MeterState{}
		for _, s := range statesOf(t, c, l) {
			key := [2]int{s.Ticks, s.Pulses}
			states[key] = append(states[key], s)
		}
		for _, s := range statesOf(t, c, other) {
			same := func(x api.MeterState) bool { return fmt.Sprint(x) == fmt.Sprint(s) }
			before, found := states[[2]int{s.Ticks, s.Pulses}]
			if found && !slices.ContainsFunc(before, same) {
				t.Errorf("%s as %s: %v is no state behind its counts", text(l), text(other), s)
			}
		}
		want(t, "its trips", numberless(tripsOf(t, c, other)), api.OK, numberless(tripsOf(t, c, l)), api.OK)
	}
	if split < 50 || merged < 50 {
		t.Error("too few logs were tried:", split, merged)
	}
}

// TestTwoWays is of P2.10.
func TestTwoWays(t *testing.T) {
	r := rand.New(rand.NewSource(210))
	trips, lawful := 0, 0
	for range 2500 {
		c := anyTariff(r)
		l := anyLog(r, c, 8+r.Intn(30))
		for i, trip := range tripsOf(t, c, l) {
			trips++
			counts, e := meter.CountsOf(c, l, i)
			wantError(t, "CountsOf "+text(l), e, api.OK)
			steps, e := meter.StepsOfCounts(c, l.Constant, counts)
			want(t, "StepsOfCounts of "+text(l), steps, e, trip.Steps, api.OK)
			x, e := meter.TripOf(c, l, i)
			if e != api.OK {
				continue
			}
			lawful++
			fare, e := tariff.FareOf(c, x)
			want(t, "FareOf "+tariff.FormatTrip(x)+" of "+text(l), fare.Total, e, trip.Fare, api.OK)
		}
	}
	if trips < 500 || lawful < 50 {
		t.Error("too few trips were tried:", trips, lawful)
	}
}

// TestMoreIsNotLess is of P2.11.
func TestMoreIsNotLess(t *testing.T) {
	r := rand.New(rand.NewSource(211))
	for range 150 {
		c := anyTariff(r)
		l := anyLog(r, c, 40)
		states := statesOf(t, c, l)
		for i := 1; i < len(states); i++ {
			if states[i].Position != api.MeterFree && states[i].Fare < states[i-1].Fare {
				t.Errorf("%s: the fare falls at the event %d", text(l), i-1)
			}
		}
		event := slices.IndexFunc(l.Events, func(x api.MeterEvent) bool { return x.Kind == api.MeterPulses })
		if event < 0 {
			continue
		}
		more := l
		more.Events = slices.Clone(l.Events)
		more.Events[event].N += r.Intn(2000)
		for i, s := range statesOf(t, c, more) {
			if s.Fare < states[i].Fare {
				t.Errorf("%s: with more pulses in the event %d the fare behind %d events is less", text(l), event, i)
			}
		}
	}
}

// shown returns a log with a right show and a right seal behind each event.
func shown(t *testing.T, c api.Tariff, l api.MeterLog) api.MeterLog {
	t.Helper()
	all := l
	all.Events = nil
	for i, s := range statesOf(t, c, l)[1:] {
		all.Events = append(all.Events, l.Events[i], api.MeterEvent{Kind: api.MeterShow, N: s.Fare})
		sealed, e := meter.Sealed(all)
		wantError(t, "Sealed", e, api.OK)
		all = sealed
	}
	return all
}

// TestFound is of P2.12.
func TestFound(t *testing.T) {
	r := rand.New(rand.NewSource(212))
	tried := 0
	for range 300 {
		c := anyTariff(r)
		l := shown(t, c, anyLog(r, c, 1+r.Intn(30)))
		_, e := meter.FirstFalse(c, l)
		wantError(t, "FirstFalse of "+text(l), e, api.ErrNone)
		event := r.Intn(len(l.Events) - 1)
		seal := event + 1
		for l.Events[seal].Kind != api.MeterSeal {
			seal++
		}
		before := l.Events[event].N
		l.Events[event].N += 1 + r.Intn(20)
		if _, e := meter.CheckLog(c, l); e != api.OK {
			continue
		}
		tried++
		got, e := meter.FirstFalse(c, l)
		if e != api.OK || got.Event > seal || got.Event < event {
			t.Errorf("%s, with %d at the event %d before: %v, error %d", text(l), before, event, got, e)
		}
	}
	if tried < 100 {
		t.Error("too few logs were tried:", tried)
	}
	// Two shows that are MeterPrime apart have one check sum: the show itself is found, by its fare.
	l := shown(t, city(), ten("o1"))
	l.Events[1].N += api.MeterPrime
	got, e := meter.FirstFalse(city(), l)
	want(t, "FirstFalse of one check sum", got, e, api.MeterFalse{Event: 1, Before: -1, Behind: 2}, api.OK)
}

// TestTextsOfLogs is of P2.13.
func TestTextsOfLogs(t *testing.T) {
	r := rand.New(rand.NewSource(214))
	for range 300 {
		c := anyTariff(r)
		l := anyLog(r, c, r.Intn(60))
		if r.Intn(2) == 0 {
			l = shown(t, c, l)
		}
		got, e := meter.ParseLog(meter.FormatLog(l))
		want(t, "ParseLog of "+text(l), got, e, l, api.OK)
	}
}

// odd returns a number that is likely to be at an end of something.
func odd(r *rand.Rand) int {
	ends := []int{math.MinInt, -1, 0, 1, 2, 3, 7, 100, 1000, 3600, 3601, 86399, 100000, 100001, 20000000, 1000000000, 998244353, math.MaxInt}
	return ends[r.Intn(len(ends))]
}

// spoilt returns a log in which a few things are changed to odd ones.
func spoilt(r *rand.Rand, l api.MeterLog) api.MeterLog {
	for range r.Intn(3) {
		switch r.Intn(4) {
		case 0:
			l.Constant = odd(r)
		case 1:
			l.At = api.Moment{Date: odd(r), Time: odd(r)}
		case 2:
			l.Events[r.Intn(len(l.Events))].N = odd(r)
		case 3:
			l.Events[r.Intn(len(l.Events))].Kind = r.Intn(9) - 1
		}
	}
	return l
}

func zero(t *testing.T, e api.Errno, result any) {
	t.Helper()
	if e != api.OK && !reflect.ValueOf(result).IsZero() {
		t.Errorf("beside the error %d: %v", e, result)
	}
}

// TestNoPanic is of P1: with whatever arguments every function ends, and beside an error all other results are zero values.
func TestNoPanic(t *testing.T) {
	r := rand.New(rand.NewSource(1))
	for range 2000 {
		c := []api.Tariff{anyTariff(r), harbour(), plain(1, 100000, 5, 1000000, 1000000), broken(), {}}[r.Intn(5)]
		l := spoilt(r, anyLog(r, c, 1+r.Intn(40)))
		x := api.MeterTest{Metres: api.Range{Lo: odd(r), Hi: odd(r)}, Pulses: odd(r), Permille: odd(r)}
		meter.CheckLog(c, l)
		state, e := meter.StateOf(c, l, odd(r))
		zero(t, e, state)
		trips, e := meter.TripsOf(c, l)
		zero(t, e, trips)
		cents, e := meter.Takings(c, l)
		zero(t, e, cents)
		counts, e := meter.CountsOf(c, l, odd(r))
		zero(t, e, counts)
		steps, e := meter.StepsOfCounts(c, odd(r), []api.MeterCount{{Rule: odd(r), Pulses: odd(r), Seconds: odd(r)}})
		zero(t, e, steps)
		trip, e := meter.TripOf(c, l, odd(r))
		zero(t, e, trip)
		split, e := meter.Split(l, odd(r), odd(r))
		zero(t, e, split)
		merged, e := meter.Merged(l)
		zero(t, e, merged)
		sum, e := meter.SumOf(l, odd(r))
		zero(t, e, sum)
		sealed, e := meter.Sealed(l)
		zero(t, e, sealed)
		found, e := meter.FirstFalse(c, l)
		zero(t, e, found)
		metres, e := meter.MetresOf(odd(r), odd(r))
		zero(t, e, metres)
		pulses, e := meter.PulsesFor(odd(r), odd(r), odd(r))
		zero(t, e, pulses)
		constants, e := meter.ConstantOf(x)
		zero(t, e, constants)
		answer, e := meter.TestIs(odd(r), x)
		zero(t, e, answer)
		textOf(t, r, meter.FormatLog(l))
	}
}

// textOf reads a text in which a few bytes are changed.
func textOf(t *testing.T, r *rand.Rand, s string) {
	b := []byte(s)
	for range r.Intn(4) {
		b[r.Intn(len(b))] = "\n -+09pz?\xff"[r.Intn(10)]
	}
	l, e := meter.ParseLog(string(b))
	zero(t, e, l)
	if e == api.OK {
		want(t, "FormatLog", text(l), e, string(b), api.OK)
	}
}

// TestMemory is of R3: arguments stay as they are, and results share no memory with them, or with each other.
func TestMemory(t *testing.T) {
	c, l := city(), ten("o1 p10 p5 t1 t3 x0 o3 o0 o1 x0 t1 o3 o0")
	before := fmt.Sprint(c, l)
	roomy := l
	roomy.Events = append(make([]api.MeterEvent, 0, 50), l.Events...)
	for _, made := range []func() (api.MeterLog, api.Errno){
		func() (api.MeterLog, api.Errno) { return meter.Split(roomy, 1, 3) },
		func() (api.MeterLog, api.Errno) { return meter.Merged(roomy) },
		func() (api.MeterLog, api.Errno) { return meter.Sealed(roomy) },
	} {
		other, e := made()
		wantError(t, "a log made of another", e, api.OK)
		for i := range other.Events {
			other.Events[i] = api.MeterEvent{Kind: 9, N: 9}
		}
		if room := roomy.Events[:cap(roomy.Events)]; text(roomy) != text(l) || room[len(l.Events)] != (api.MeterEvent{}) {
			t.Error("an argument was changed to", text(roomy))
		}
	}
	trips := tripsOf(t, c, l)
	trips[0].Extras = append(trips[0].Extras[:0], 7, 8)
	want(t, "the other trip", trips[1].Extras, api.OK, []int{1}, api.OK)
	states := statesOf(t, c, l)
	states[6].Extras[0] = 7
	x, e := meter.TripOf(c, l, 0)
	wantError(t, "TripOf", e, api.OK)
	x.Extras[0] = 9
	if after := fmt.Sprint(c, l); after != before {
		t.Errorf("an argument was changed from %s to %s", before, after)
	}
	want(t, "the trips once more", tripsOf(t, c, l)[0].Extras, api.OK, []int{1}, api.OK)
}

// TestLongLog is of P1: also the longest logs are soon done with.
func TestLongLog(t *testing.T) {
	l := ten("o1 " + many("t3600 z1 t1 z0", 49) + " t3600 p9 o3")
	s, e := meter.StateOf(city(), l, 200)
	want(t, "StateOf the longest log", s.Ticks, e, 50*3600+49, api.OK)
	s, e = meter.StateOf(city(), ten("o1 "+many("t3600", 199)), 200)
	want(t, "StateOf the longest time", s.Ticks, e, 199*3600, api.OK)
}
