package meter_test

import (
	"fmt"
	"math/rand"
	"strings"
	"testing"

	"fiacre/api"
	"fiacre/meter"
	"fiacre/tariff"
)

// want compares a result and its error with what is wanted. A nil list and an empty one are the same.
func want[T any](t *testing.T, what string, got T, e api.Errno, wanted T, f api.Errno) {
	t.Helper()
	if fmt.Sprint(got) != fmt.Sprint(wanted) || e != f {
		t.Errorf("%s: %v, error %d; want %v, error %d", what, got, e, wanted, f)
	}
}

func wantError(t *testing.T, what string, e, f api.Errno) {
	t.Helper()
	want(t, what, 0, e, 0, f)
}

// must returns the tariff with a text, lines being separated by ";".
func must(s string) api.Tariff {
	t, e := tariff.ParseTariff(s)
	if e != api.OK {
		panic(s)
	}
	return t
}

// city is the tariff of the document's examples.
func city() api.Tariff {
	return must("tariff city 1000 10;zone town;zone port;holiday 7;" +
		"rule day 0 100000 town,port 01234567 21600 79200 350 5 8;" +
		"rule night 0 100000 town,port 01234567 79200 21600 450 6 8;" +
		"extra bag 100;fixed town port 4000")
}

// harbour is a tariff with a rule of its own for each zone, a gap from 70000 on in the zone 1, and an overlap from 80000 on in the zone 0.
func harbour() api.Tariff {
	return must("tariff harbour 1000 10;zone town;zone port;" +
		"rule town 0 100000 town 01234567 0 0 350 5 8;" +
		"rule port 0 100000 port 01234567 0 70000 400 7 9;" +
		"rule late 0 100000 town 01234567 80000 0 1 1 1;" +
		"extra bag 100;extra dog 50")
}

// plain is a tariff of one zone with one rule that always holds, and supplements of 100000.
func plain(unit, step, start, metre, second int) api.Tariff {
	return must(fmt.Sprint("tariff plain ", unit, " ", step, ";zone a;rule all 0 100000 a 01234567 0 0 ", start, " ", metre, " ", second,
		";extra x 100000"))
}

func broken() api.Tariff {
	c := city()
	c.Unit = 0
	return c
}

// logOf returns the log with a text.
func logOf(s string) api.MeterLog {
	l, e := meter.ParseLog(s)
	if e != api.OK {
		panic(s)
	}
	return l
}

// ten returns the log of these events with the constant 1000, from ten o'clock on.
func ten(events string) api.MeterLog { return logOf(strings.TrimSpace("1000 0 36000 " + events)) }

// many returns a text of so many events, all the same.
func many(event string, n int) string { return strings.TrimSpace(strings.Repeat(event+" ", n)) }

func text(l api.MeterLog) string { return meter.FormatLog(l) }

// anyTariff returns a random tariff with two zones and rules of day and night for each of them.
func anyTariff(r *rand.Rand) api.Tariff {
	t := api.Tariff{Name: "any", Unit: 1 + r.Intn(2000), Step: r.Intn(30), Zones: []string{"a", "b"}}
	for zone := range 2 {
		begin, end := 3600*r.Intn(24), 3600*r.Intn(24)
		if begin == end {
			end = (end + 3600) % api.Day
		}
		for i, hours := range [][2]int{{begin, end}, {end, begin}} {
			t.Rules = append(t.Rules, api.TariffRule{
				Name: fmt.Sprintf("r%d-%d", zone, i), To: api.MaxDate, Zones: []int{zone}, Days: []int{0, 1, 2, 3, 4, 5, 6, 7},
				Begin: hours[0], End: hours[1], Start: r.Intn(500), Metre: r.Intn(8), Second: r.Intn(40),
			})
		}
	}
	for i := range r.Intn(3) {
		t.Extras = append(t.Extras, api.TariffExtra{Name: fmt.Sprint("x", i), Amount: r.Intn(300)})
	}
	return t
}

// anyLog returns a random log that is right by anyTariff's tariffs.
func anyLog(r *rand.Rand, t api.Tariff, events int) api.MeterLog {
	l := api.MeterLog{Constant: []int{1000, 500, 1 + r.Intn(3000)}[r.Intn(3)], At: api.Moment{Date: r.Intn(20), Time: r.Intn(api.Day)}}
	position := api.MeterFree
	for len(l.Events) < events {
		switch r.Intn(9) {
		case 0, 1, 2:
			add(&l, api.MeterPulses, 1+r.Intn(300))
		case 3, 4, 5:
			add(&l, api.MeterTicks, []int{1, 1, 1, 1 + r.Intn(20), 1 + r.Intn(20), 1 + r.Intn(3600)}[r.Intn(6)])
		case 6:
			position = nextOf(r, position)
			add(&l, api.MeterPut, position)
		case 7:
			add(&l, api.MeterZone, r.Intn(2))
		case 8:
			if len(t.Extras) > 0 && position != api.MeterFree && r.Intn(3) == 0 {
				add(&l, api.MeterExtra, r.Intn(len(t.Extras)))
			}
		}
	}
	return l
}

func add(l *api.MeterLog, kind, n int) { l.Events = append(l.Events, api.MeterEvent{Kind: kind, N: n}) }

func nextOf(r *rand.Rand, position int) int {
	switch position {
	case api.MeterFree:
		return api.MeterHired
	case api.MeterHired:
		return api.MeterStopped + r.Intn(2)
	case api.MeterStopped:
		return []int{api.MeterHired, api.MeterCash}[r.Intn(2)]
	}
	return []int{api.MeterHired, api.MeterFree, api.MeterFree}[r.Intn(3)]
}

func statesOf(t *testing.T, c api.Tariff, l api.MeterLog) []api.MeterState {
	t.Helper()
	var states []api.MeterState
	for i := range len(l.Events) + 1 {
		s, e := meter.StateOf(c, l, i)
		if e != api.OK {
			t.Fatalf("StateOf %s: error %d", text(l), e)
		}
		states = append(states, s)
	}
	return states
}

func tripsOf(t *testing.T, c api.Tariff, l api.MeterLog) []api.MeterTrip {
	t.Helper()
	trips, e := meter.TripsOf(c, l)
	wantError(t, "TripsOf "+text(l), e, api.OK)
	return trips
}
