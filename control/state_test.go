package control_test

import (
	"fmt"
	"math/rand"
	"slices"
	"strings"
	"testing"

	"fiacre/api"
	"fiacre/control"
)

// numberedBy returns a journal of the desk a, of entries without their clocks, desks and numbers.
func numberedBy(texts ...string) []api.ControlEntry {
	var l []api.ControlEntry
	for i, text := range texts {
		l = append(l, entry(fmt.Sprintf("%d a %d %s", i+1, i, text)))
	}
	return l
}

// told returns the trips and refused entries of a state as a text.
func told(x api.ControlState) string {
	var parts []string
	for _, trip := range x.Trips {
		parts = append(parts, fmt.Sprintf("%s.%d %s/%s %d %d", trip.Key.Desk, trip.Key.Number, trip.Passenger, trip.Car, trip.Status, trip.Fare))
	}
	for _, r := range x.Refused {
		parts = append(parts, fmt.Sprintf("%d:%d", r.Entry, r.Error))
	}
	return strings.Join(parts, ", ")
}

// TestStateOf is of P10.4: the state of the document's first example, behind each of its entries.
func TestStateOf(t *testing.T) {
	for many, wanted := range []string{"", "a.0 smith/ 0 0", "a.0 smith/car-7 1 0", "a.0 smith/car-7 2 350", "a.0 smith/car-7 3 350"} {
		x, e := control.StateOf(setup(), example()[:many])
		gives(t, fmt.Sprint(many), wanted)(told(x), e)
		var counts [api.ControlKinds]int
		for kind := range many {
			counts[[]int{api.ControlOrder, api.ControlAssign, api.ControlCarry, api.ControlBill}[kind]]++
		}
		gives(t, fmt.Sprint("the counts of ", many), counts)(x.Counts, api.OK)
	}
}

// refused is how told tells of entries that are refused for an error.
func refused(e api.Errno, numbers ...int) string {
	text := ""
	for _, number := range numbers {
		text += fmt.Sprintf(", %d:%d", number, e)
	}
	return text
}

// TestStates is of P10.4: what entries do to trips, and for which errors they are refused.
func TestStates(t *testing.T) {
	const order, other, assign, cancel, carry, bill = "dan order - smith", "dan order - jones", "dan assign a.0 car-7", "dan cancel a.0 -", "eve carry a.0 " + log, "flo bill a.0 350"
	for _, c := range []struct {
		wanted string
		texts  []string
	}{
		// of a trip that was not ordered ahead of the entry
		{"a.1 smith/ 0 0" + refused(api.ErrMissing, 0), []string{"dan assign a.1 car-7", order}},
		{"a.0 smith/ 0 0" + refused(api.ErrMissing, 1, 2, 3, 4), []string{order, "dan assign a.1 x", "dan cancel b.0 -", "eve carry B-3.0 " + log, "flo bill a.59 350"}},
		// of an ordered one
		{"a.0 smith/ 4 0", []string{order, cancel}},
		{"a.0 smith/ 0 0" + refused(api.ErrState, 1, 2, 3), []string{order, carry, bill, "flo bill a.0 0"}},
		// of an assigned one
		{"a.0 smith/car-8 1 0", []string{order, assign, "dan assign a.0 car-8"}},
		{"a.0 smith/car-7 1 0", []string{order, assign, assign}},
		{"a.0 smith/car-7 1 0" + refused(api.ErrState, 2), []string{order, assign, bill}},
		{"a.0 smith/ 4 0" + refused(api.ErrState, 3, 4, 5, 6), []string{order, assign, cancel, assign, carry, bill, cancel}},
		// of a carried one
		{"a.0 smith/car-7 2 350" + refused(api.ErrState, 3, 4, 5), []string{order, assign, carry, assign, cancel, "eve carry a.0 " + dear}},
		{"a.0 smith/car-7 2 350" + refused(api.ErrClash, 3, 4, 5), []string{order, assign, carry, "flo bill a.0 360", "flo bill a.0 0", "flo bill a.0 349"}},
		{"a.0 smith/car-7 3 400", []string{order, assign, "eve carry a.0 " + dear, "flo bill a.0 400"}},
		// of a billed one
		{"a.0 smith/car-7 3 350" + refused(api.ErrDouble, 4, 5) + refused(api.ErrState, 6, 7, 8), []string{order, assign, carry, bill, bill, "flo bill a.0 360", carry, assign, cancel}},
		// of a car
		{"a.0 smith/car-7 1 0, a.1 jones/ 0 0" + refused(api.ErrBusy, 3), []string{order, other, assign, "dan assign a.1 car-7"}},
		{"a.0 smith/car-7 1 0, a.1 jones/car-8 1 0" + refused(api.ErrBusy, 4, 5), []string{order, other, assign, "dan assign a.1 car-8", "dan assign a.1 car-7", "dan assign a.0 car-8"}},
		{"a.0 smith/car-7 2 350, a.1 jones/car-7 1 0", []string{order, other, assign, carry, "dan assign a.1 car-7"}},
		{"a.0 smith/ 4 0, a.1 jones/car-7 1 0", []string{order, other, assign, cancel, "dan assign a.1 car-7"}},
		{"a.0 smith/ 4 0, a.1 jones/car-7 1 0" + refused(api.ErrState, 4), []string{order, other, "dan assign a.1 car-7", cancel, assign}},
		{"a.0 smith/x 1 0, a.1 jones/car-7 1 0", []string{order, other, assign, "dan assign a.0 x", "dan assign a.1 car-7"}},
		{"a.0 smith/Car-7 1 0, a.1 jones/car-7 1 0", []string{order, other, "dan assign a.0 Car-7", "dan assign a.1 car-7"}},
		{"a.0 smith/car-7 3 350, a.1 smith/car-7 1 0" + refused(api.ErrState, 6), []string{order, order, assign, carry, bill, "dan assign a.1 car-7", "dan assign a.0 car-7"}},
		{"a.0 smith/car-7 1 0, a.2 jones/ 0 0, a.4 smith/ 4 0" + refused(api.ErrBusy, 3) + refused(api.ErrMissing, 6), []string{order, assign, other, "dan assign a.2 car-7", order, "dan cancel a.4 -", "dan cancel a.1 -"}},
	} {
		l := numberedBy(c.texts...)
		x, e := control.StateOf(setup(), l)
		gives(t, fmt.Sprint(c.texts), c.wanted)(told(x), e)
		gives(t, fmt.Sprint(c.texts), slowStateOf(setup(), l))(x, e)
	}
}

// TestKept is of P10.4: entries of the other kinds are kept, whatever they say, and counted.
func TestKept(t *testing.T) {
	l := numberedBy("ida rank - arrive 20 0 a", "ida rank - arrive 20 0 a", "ida duty - ann 16000 20000", "ida money - 0 n", "ida money - 0 n", "ida money - 13 paid a=5", "ida item - hat 10 ann", "ida event - cap 20 sold ann bob", "ida event - cap 10 sold ann bob", "ida bill a.0 5")
	x, e := control.StateOf(setup(), l)
	gives(t, "the state", fmt.Sprintf("9:%d", api.ErrMissing))(told(x), e)
	gives(t, "the counts", "[0 0 0 0 0 2 1 3 1 2]")(x.Counts, e)
}

// TestApart is of P10.4: two desks that were apart, of which the later entry by the stamps is refused.
func TestApart(t *testing.T) {
	for _, c := range []struct {
		wanted string
		a, b   []string
	}{
		{"a.0 smith/car-7 1 0, b.0 jones/ 0 0" + refused(api.ErrBusy, 3), []string{"3 a 1 dan assign a.0 car-7"}, []string{"3 b 1 dan assign b.0 car-7"}},
		{"a.0 smith/ 0 0, b.0 jones/car-7 1 0" + refused(api.ErrBusy, 3), []string{"4 a 1 dan assign a.0 car-7"}, []string{"3 b 1 dan assign b.0 car-7"}},
		{"a.0 smith/car-7 1 0, b.0 jones/car-8 1 0" + refused(api.ErrBusy, 4), []string{"4 a 1 dan assign a.0 car-7"}, []string{"3 b 1 dan assign b.0 car-8", "5 b 2 dan assign b.0 car-7"}},
		{"a.0 smith/ 4 0, b.0 jones/ 0 0" + refused(api.ErrState, 3), []string{"3 a 1 dan cancel a.0 -"}, []string{"3 b 1 dan assign a.0 car-7"}},
		{"a.0 smith/ 4 0, b.0 jones/ 0 0", []string{"4 a 1 dan cancel a.0 -"}, []string{"3 b 1 dan assign a.0 car-7"}},
		{"a.0 smith/car-7 2 350, b.0 jones/car-7 1 0", []string{"3 a 1 dan assign a.0 car-7", "4 a 2 eve carry a.0 " + log}, []string{"5 b 1 dan assign b.0 car-7"}},
		{"a.0 smith/car-7 3 350, b.0 jones/ 0 0" + refused(api.ErrDouble, 5), []string{"3 a 1 dan assign a.0 car-7", "4 a 2 eve carry a.0 " + log, "5 a 3 flo bill a.0 350"}, []string{"6 b 1 flo bill a.0 350"}},
		{"a.0 smith/ 0 0, b.0 jones/ 0 0, a.1 kim/ 0 0" + refused(api.ErrMissing, 2), []string{"4 a 1 dan order - kim"}, []string{"3 b 1 dan assign a.1 car-7"}},
	} {
		before := journal("1 a 0 dan order - smith", "2 b 0 dan order - jones")
		a, b := append(before[:2:2], journal(c.a...)...), append(before[:2:2], journal(c.b...)...)
		x, e := control.StateOf(setup(), first(control.Joined(setup(), b, a)))
		gives(t, fmt.Sprint(c.a, c.b), c.wanted)(told(x), e)
	}
}

// TestTripOf is of P10.4: a trip of its own, and those that are none.
func TestTripOf(t *testing.T) {
	l := append(example(), journal("5 b 2 dan order - jones", "6 b 3 dan assign b.2 car-7")...)
	gives(t, "a.0", api.ControlTrip{Key: key("a", 0), Passenger: "smith", Car: "car-7", Status: api.ControlBilled, Fare: 350})(control.TripOf(setup(), l, key("a", 0)))
	gives(t, "b.2", api.ControlTrip{Key: key("b", 2), Passenger: "jones", Car: "car-7", Status: api.ControlAssigned})(control.TripOf(setup(), l, key("b", 2)))
	gives(t, "a.0 at first", api.ControlTrip{Key: key("a", 0), Passenger: "smith"})(control.TripOf(setup(), l[:1], key("a", 0)))
	for _, k := range []api.ControlKey{{}, key("a", 1), key("b", 0), key("b", 3), key("A", 0), key("", 2), key("zz", 0), key("a", -1), key("a", 60), key("a", 1<<62)} {
		fails(t, fmt.Sprint(k), api.ErrMissing)(control.TripOf(setup(), l, k))
	}
	fails(t, "of nothing", api.ErrMissing)(control.TripOf(setup(), nil, key("a", 0)))
}

// TestOpenTrips is of P10.4: trips that are neither billed nor cancelled.
func TestOpenTrips(t *testing.T) {
	l := append(example(), journal("5 b 2 dan order - jones", "6 a 2 dan order - kim", "7 a 3 dan cancel b.2 -", "8 a 4 dan order - lee", "9 a 5 dan assign a.4 x", "9 b 3 dan order - moe")...)
	for many, wanted := range []string{"[]", "[{a 0}]", "[{a 0}]", "[{a 0}]", "[]", "[{b 2}]", "[{b 2} {a 2}]", "[{a 2}]", "[{a 2} {a 4}]", "[{a 2} {a 4}]", "[{a 2} {a 4} {b 3}]"} {
		gives(t, fmt.Sprint(many), wanted)(control.OpenTrips(setup(), l[:many]))
	}
}

// TestTakings is of P10.4: the fares of all billed trips.
func TestTakings(t *testing.T) {
	for many, wanted := range []int{0, 0, 0, 0, 350} {
		gives(t, fmt.Sprint(many), wanted)(control.Takings(setup(), example()[:many]))
	}
	l := append(example(), journal("5 b 2 dan order - jones", "6 a 2 dan assign b.2 car-7", "7 a 3 eve carry b.2 "+dear, "8 b 3 flo bill b.2 350", "9 b 4 flo bill b.2 400", "10 b 5 flo bill b.2 400", "11 a 4 dan order - kim", "12 a 5 dan assign a.4 x", "13 a 6 eve carry a.4 "+log)...)
	for many, wanted := range map[int]int{8: 350, 9: 750, 13: 750} {
		gives(t, fmt.Sprint(many), wanted)(control.Takings(setup(), l[:many]))
	}
}

// dearSetup is a setup of which the start of a trip costs so many cents, each second 100000, and a bag 1.
func dearSetup(start int) api.ControlSetup {
	s := setup()
	s.Tariff.Unit, s.Tariff.Step, s.Tariff.Extras[0].Amount = 1, 100000, 1
	s.Tariff.Rules[0].Start, s.Tariff.Rules[0].Second = start, 1
	return s
}

// TestTakingsLarge is of P10.4: takings that are just not too large, and too large.
func TestTakingsLarge(t *testing.T) {
	for _, c := range []struct {
		start   int
		seconds string
		cents   int
		more    string
		e       api.Errno
	}{
		{0, "t2500", 250000000, "", api.OK}, {0, "t2500", 250000000, "x0 ", api.ErrLarge}, {1, "t2500", 250000001, "", api.ErrLarge}, {99999, "t3600 t3600 t2799", 999999999, "", api.ErrLarge},
	} {
		s := dearSetup(c.start)
		trip := func(number int, more string, cents int) []string {
			return []string{"ida order - p", fmt.Sprintf("ida assign a.%d x", number), fmt.Sprintf("ida carry a.%d 1000 0 36000 o1 %s%s o3 o0", number, more, c.seconds), fmt.Sprintf("ida bill a.%d %d", number, cents)}
		}
		l := numberedBy(slices.Concat(trip(0, "", c.cents), trip(4, "", c.cents), trip(8, "", c.cents), trip(12, c.more, c.cents+len(c.more)/3))...)
		gives(t, "one trip", c.cents)(control.Takings(s, l[:4]))
		gives(t, "one trip, and one that is not billed", c.cents)(control.Takings(s, l[:7]))
		gives(t, "the last trip", api.ControlBilled)(first(control.TripOf(s, l, key("a", 12))).Status, api.OK)
		if c.e == api.OK {
			gives(t, fmt.Sprint(c), 4*c.cents)(control.Takings(s, l))
		} else {
			fails(t, fmt.Sprint(c), c.e)(control.Takings(s, l))
		}
	}
}

// TestAnyState is of P10.4, and of P10.9: random journals have the state of the definition; each order is a trip, and of each trip at most one bill is not refused.
func TestAnyState(t *testing.T) {
	r := rand.New(rand.NewSource(104))
	seen := map[api.Errno]int{}
	for range 800 {
		apart := anyJournals(t, r, 40)
		l := slowJoined(slowJoined(apart[0], apart[1]), apart[2])
		x, e := control.StateOf(setup(), l)
		gives(t, "StateOf", slowStateOf(setup(), l))(x, e)
		cents, open, bills := 0, []api.ControlKey(nil), map[api.ControlKey]int{}
		for _, refusal := range x.Refused {
			seen[refusal.Error]++
			bills[l[refusal.Entry].Draft.Key] -= bit(l[refusal.Entry].Draft.Kind == api.ControlBill)
		}
		trips := map[api.ControlKey]api.ControlTrip{}
		for _, trip := range x.Trips {
			trips[trip.Key] = trip
			gives(t, "TripOf", trip)(control.TripOf(setup(), l, trip.Key))
			if trip.Status == api.ControlBilled {
				cents += trip.Fare
			} else if trip.Status != api.ControlCancelled {
				open = append(open, trip.Key)
			}
		}
		for _, y := range l {
			bills[y.Draft.Key] += bit(y.Draft.Kind == api.ControlBill)
			if trip, ordered := trips[key(y.Stamp.Desk, y.Stamp.Number)]; ordered != (y.Draft.Kind == api.ControlOrder) || ordered && trip.Passenger != y.Draft.Text {
				t.Errorf("%v is the trip %v", y, trip)
			}
		}
		for k := range trips {
			if many := bills[k]; many > 1 || (many == 1) != (trips[k].Status == api.ControlBilled) {
				t.Errorf("%d bills of %v", many, trips[k])
			}
		}
		gives(t, "OpenTrips", open)(control.OpenTrips(setup(), l))
		gives(t, "Takings", cents)(control.Takings(setup(), l))
	}
	for _, e := range []api.Errno{api.ErrMissing, api.ErrState, api.ErrBusy, api.ErrDouble, api.ErrClash} {
		if seen[e] < 10 {
			t.Errorf("the error %d was seen %d times", e, seen[e])
		}
	}
}

func bit(b bool) int {
	if b {
		return 1
	}
	return 0
}
