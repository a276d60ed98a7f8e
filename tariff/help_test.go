package tariff_test

import (
	"fmt"
	"math/rand"
	"slices"
	"testing"

	"fiacre/api"
	"fiacre/tariff"
)

// want compares a result and its error with what is wanted. A nil list and an empty one are the same.
func want[T any](t *testing.T, what string, got T, e api.Errno, wanted T, f api.Errno) {
	t.Helper()
	if fmt.Sprint(got) != fmt.Sprint(wanted) || e != f {
		t.Errorf("%s: %v, error %d; want %v, error %d", what, got, e, wanted, f)
	}
}

func wantError(t *testing.T, what string, e, f api.Errno) {
	t.Helper()
	want(t, what, 0, e, 0, f)
}

const cityText = "tariff city 1000 10\nzone town\nzone port\nholiday 7\n" +
	"rule day 0 100000 town,port 01234567 21600 79200 350 5 8\n" +
	"rule night 0 100000 town,port 01234567 79200 21600 450 6 8\n" +
	"extra bag 100\nfixed town port 4000\n"

func days() []int { return []int{0, 1, 2, 3, 4, 5, 6, 7} }

// city is the tariff of the document's examples.
func city() api.Tariff {
	return api.Tariff{
		Name: "city", Unit: 1000, Step: 10, Zones: []string{"town", "port"}, Holidays: []int{7},
		Rules: []api.TariffRule{
			{Name: "day", To: 100000, Zones: []int{0, 1}, Days: days(), Begin: 21600, End: 79200, Start: 350, Metre: 5, Second: 8},
			{Name: "night", To: 100000, Zones: []int{0, 1}, Days: days(), Begin: 79200, End: 21600, Start: 450, Metre: 6, Second: 8},
		},
		Extras: []api.TariffExtra{{Name: "bag", Amount: 100}},
		Fixed:  []api.TariffFixed{{From: 0, To: 1, Amount: 4000}},
	}
}

// plain is a tariff of one zone with one rule that always holds.
func plain(unit, step, start, metre, second int) api.Tariff {
	return api.Tariff{
		Name: "plain", Unit: unit, Step: step, Zones: []string{"a"},
		Rules: []api.TariffRule{{Name: "all", To: api.MaxDate, Zones: []int{0}, Days: days(), Start: start, Metre: metre, Second: second}},
	}
}

func broken() api.Tariff {
	c := city()
	c.Unit = 0
	return c
}

func moment(date, time int) api.Moment { return api.Moment{Date: date, Time: time} }

func place(zone, date, time int) api.TariffPlace {
	return api.TariffPlace{Zone: zone, At: moment(date, time)}
}

func segment(zone, metres, seconds int) api.TariffSegment {
	return api.TariffSegment{Zone: zone, Metres: metres, Seconds: seconds}
}

// ride is a trip by city's tariff, without supplements.
func ride(at api.Moment, segments ...api.TariffSegment) api.TariffTrip {
	return api.TariffTrip{At: at, Extras: []int{0}, Segments: segments}
}

// some returns a random choice of 0 to n - 1, ascending, of one at least.
func some(r *rand.Rand, n int) []int {
	list := r.Perm(n)[:1+r.Intn(n)]
	slices.Sort(list)
	return list
}

// anyTariff returns a random tariff whose rules begin and end at whole hours, on the first dates.
func anyTariff(r *rand.Rand) api.Tariff {
	t := api.Tariff{Name: "any", Unit: 1 + r.Intn(3000), Step: r.Intn(50)}
	for i := range 1 + r.Intn(3) {
		t.Zones = append(t.Zones, fmt.Sprint("zone-", i))
	}
	for date := range 20 {
		if r.Intn(8) == 0 {
			t.Holidays = append(t.Holidays, date)
		}
	}
	for i := range r.Intn(7) {
		from := r.Intn(10)
		t.Rules = append(t.Rules, api.TariffRule{
			Name: fmt.Sprint("r", i), From: from, To: from + r.Intn(20), Zones: some(r, len(t.Zones)), Days: some(r, 8),
			Begin: 3600 * r.Intn(24), End: 3600 * r.Intn(25), Start: r.Intn(500), Metre: r.Intn(10), Second: r.Intn(20),
		})
	}
	for i := range r.Intn(3) {
		t.Extras = append(t.Extras, api.TariffExtra{Name: fmt.Sprint("x", i), Amount: r.Intn(300)})
	}
	if r.Intn(2) == 0 {
		t.Fixed = append(t.Fixed, api.TariffFixed{To: len(t.Zones) - 1, Amount: r.Intn(5000)})
	}
	return t
}

// twoRules returns a random tariff without gaps and overlaps.
func twoRules(r *rand.Rand) api.Tariff {
	t := city()
	t.Unit, t.Step = 1+r.Intn(2000), r.Intn(30)
	for i := range t.Rules {
		t.Rules[i].Metre, t.Rules[i].Second = r.Intn(9), r.Intn(30)
	}
	return t
}

// anyRide returns a random right trip by a tariff, from the first dates.
func anyRide(r *rand.Rand, t api.Tariff) api.TariffTrip {
	x := api.TariffTrip{At: moment(r.Intn(20), r.Intn(api.Day))}
	for range t.Extras {
		x.Extras = append(x.Extras, r.Intn(4))
	}
	for range 1 + r.Intn(5) {
		x.Segments = append(x.Segments, segment(r.Intn(len(t.Zones)), r.Intn(3000), 1+r.Intn(900)))
	}
	return x
}

func total(t *testing.T, c api.Tariff, x api.TariffTrip) int {
	t.Helper()
	fare, e := tariff.FareOf(c, x)
	wantError(t, "FareOf "+tariff.FormatTrip(x), e, api.OK)
	return fare.Total
}

func lastStep(t *testing.T, c api.Tariff, x api.TariffTrip) int {
	t.Helper()
	steps, e := tariff.StepsOf(c, x)
	wantError(t, "StepsOf "+tariff.FormatTrip(x), e, api.OK)
	return steps[len(steps)-1]
}
