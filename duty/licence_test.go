package duty_test

import (
	"fmt"
	"math"
	"math/rand"
	"slices"
	"testing"

	"fiacre/api"
	"fiacre/duty"
)

// taxi is the licences of the document's examples.
func taxi() []api.DutyLicence {
	return []api.DutyLicence{{Kind: "taxi", From: 100, To: 200}, {Kind: "taxi", From: 201, To: 300}}
}

// TestCheckLicences is of P7.5: each error of licences, which comes ahead of which, and its number.
func TestCheckLicences(t *testing.T) {
	many := slices.Repeat(taxi(), 10)
	for _, l := range [][]api.DutyLicence{nil, taxi(), many, {{Kind: "a", From: 0, To: 0}}, {{Kind: "a", From: 0, To: 100000}}, {{Kind: "b", From: 7, To: 9}, {Kind: "b", From: 0, To: 5}}} {
		at(t, fmt.Sprint("CheckLicences ", l), 0, api.OK)(duty.CheckLicences(l))
	}
	for _, x := range []struct {
		what   string
		l      []api.DutyLicence
		number int
		e      api.Errno
	}{
		{"too many", append(many, taxi()[0]), 0, api.ErrLarge},
		{"too many ahead of their names", make([]api.DutyLicence, 21), 0, api.ErrLarge},
		{"no name", append(taxi(), api.DutyLicence{}), 2, api.ErrName},
		{"a long name", []api.DutyLicence{{Kind: "abcdefghijklm", To: 1}}, 0, api.ErrName},
		{"a beginning below 0", []api.DutyLicence{{Kind: "a", From: -1, To: 1}}, 0, api.ErrRange},
		{"an end behind all dates", append(taxi(), api.DutyLicence{Kind: "a", From: 1, To: 100001}), 2, api.ErrRange},
		{"a beginning behind all dates", []api.DutyLicence{{Kind: "a", From: math.MaxInt, To: 1}}, 0, api.ErrRange},
		{"an end below 0", []api.DutyLicence{{Kind: "a", From: 1, To: math.MinInt}}, 0, api.ErrRange},
		{"an end ahead of the beginning", append(taxi(), api.DutyLicence{Kind: "a", From: 6, To: 5}), 2, api.ErrOrder},
		{"names ahead of dates", []api.DutyLicence{{Kind: "7", From: -1, To: -2}}, 0, api.ErrName},
		{"dates ahead of their order", []api.DutyLicence{{Kind: "a", From: 5, To: -2}}, 0, api.ErrRange},
		{"one by one", []api.DutyLicence{{Kind: "a", From: 5, To: 4}, {}}, 0, api.ErrOrder},
	} {
		at(t, x.what, x.number, x.e)(duty.CheckLicences(x.l))
		fails(t, "Holds: "+x.what, x.e)(duty.Holds(x.l, "", -1))
		fails(t, "Lapses: "+x.what, x.e)(duty.Lapses(x.l, "", -1))
		fails(t, "MayDrive: "+x.what, x.e)(duty.MayDrive(x.l, []string{""}, -1))
	}
}

// TestHolds is of P7.5: the ends of a licence, and other kinds.
func TestHolds(t *testing.T) {
	for date, wanted := range map[int]bool{0: false, 99: false, 100: true, 200: true, 201: true, 300: true, 301: false, 100000: false} {
		gives(t, fmt.Sprint("a taxi on ", date), wanted)(duty.Holds(taxi(), "taxi", date))
		gives(t, fmt.Sprint("a bus on ", date), false)(duty.Holds(taxi(), "bus", date))
		gives(t, fmt.Sprint("a Taxi on ", date), false)(duty.Holds(taxi(), "Taxi", date))
	}
	gives(t, "no licences", false)(duty.Holds(nil, "taxi", 5))
	gives(t, "all dates", true)(duty.Holds([]api.DutyLicence{{Kind: "a", From: 0, To: 100000}}, "a", 100000))
}

// TestLapses is of P7.5: licences one behind the other, overlapping, apart, and of other kinds between.
func TestLapses(t *testing.T) {
	for date, wanted := range map[int]int{100: 300, 150: 300, 200: 300, 201: 300, 300: 300} {
		gives(t, fmt.Sprint("a taxi from ", date), wanted)(duty.Lapses(taxi(), "taxi", date))
	}
	for _, date := range []int{0, 99, 301, 100000} {
		fails(t, fmt.Sprint("a taxi from ", date), api.ErrNone)(duty.Lapses(taxi(), "taxi", date))
	}
	fails(t, "a bus", api.ErrNone)(duty.Lapses(taxi(), "bus", 150))
	fails(t, "no licences", api.ErrNone)(duty.Lapses(nil, "taxi", 150))
	apart := []api.DutyLicence{{Kind: "a", From: 12, To: 20}, {Kind: "b", From: 10, To: 12}, {Kind: "a", From: 5, To: 10}, {Kind: "a", From: 0, To: 7}, {Kind: "a", From: 15, To: 100000}}
	for date, wanted := range map[int]int{0: 10, 7: 10, 10: 10, 12: 100000, 100000: 100000} {
		gives(t, fmt.Sprint("an a from ", date), wanted)(duty.Lapses(apart, "a", date))
	}
	fails(t, "an a between", api.ErrNone)(duty.Lapses(apart, "a", 11))
	gives(t, "one within another one", 9)(duty.Lapses([]api.DutyLicence{{Kind: "a", From: 1, To: 9}, {Kind: "a", From: 2, To: 4}}, "a", 3))
}

// TestAnyLicences is of P7.5: licences of a few kinds on a few dates, date by date.
func TestAnyLicences(t *testing.T) {
	r := rand.New(rand.NewSource(80))
	for range 500 {
		var l []api.DutyLicence
		for range r.Intn(10) {
			from := r.Intn(30)
			l = append(l, api.DutyLicence{Kind: []string{"a", "b"}[r.Intn(2)], From: from, To: from + r.Intn(8)})
		}
		holds := func(kind string, date int) bool {
			for _, x := range l {
				for on := x.From; on <= x.To; on++ {
					if x.Kind == kind && on == date {
						return true
					}
				}
			}
			return false
		}
		for date := range 40 {
			what := fmt.Sprint(l, " on ", date)
			gives(t, "Holds "+what, holds("a", date))(duty.Holds(l, "a", date))
			last := date
			for holds("a", last) {
				last++
			}
			if last == date {
				fails(t, "Lapses "+what, api.ErrNone)(duty.Lapses(l, "a", date))
			} else {
				gives(t, "Lapses "+what, last-1)(duty.Lapses(l, "a", date))
			}
			wanted := ""
			for _, kind := range []string{"b", "a"} {
				if !holds(kind, date) {
					wanted = kind
				}
			}
			gives(t, "MayDrive "+what, wanted)(duty.MayDrive(l, []string{"a", "b"}, date))
		}
	}
}

// TestMayDrive is of P7.5: the first kind of which no licence holds.
func TestMayDrive(t *testing.T) {
	gives(t, "a taxi and a bus", "bus")(duty.MayDrive(taxi(), []string{"taxi", "bus"}, 150))
	gives(t, "a bus and a car", "bus")(duty.MayDrive(taxi(), []string{"bus", "car"}, 150))
	gives(t, "a taxi", "")(duty.MayDrive(taxi(), []string{"taxi"}, 300))
	gives(t, "a taxi too late", "taxi")(duty.MayDrive(taxi(), []string{"taxi", "bus"}, 301))
	gives(t, "nothing", "")(duty.MayDrive(taxi(), nil, 0))
	gives(t, "20 kinds", "")(duty.MayDrive(taxi(), slices.Repeat([]string{"taxi"}, 20), 150))
	fails(t, "21 kinds", api.ErrLarge)(duty.MayDrive(taxi(), slices.Repeat([]string{""}, 21), -1))
	fails(t, "a kind that is none", api.ErrName)(duty.MayDrive(taxi(), []string{"bus", "7"}, -1))
	for _, date := range []int{-1, 100001, math.MinInt, math.MaxInt} {
		fails(t, "MayDrive on no date", api.ErrRange)(duty.MayDrive(taxi(), []string{"bus"}, date))
		fails(t, "Holds on no date", api.ErrRange)(duty.Holds(taxi(), "taxi", date))
		fails(t, "Lapses on no date", api.ErrRange)(duty.Lapses(taxi(), "bus", date))
		for _, kind := range []string{"", "7", "a b", "abcdefghijklm"} {
			fails(t, "Holds of no kind", api.ErrName)(duty.Holds(taxi(), kind, date))
			fails(t, "Lapses of no kind", api.ErrName)(duty.Lapses(taxi(), kind, date))
		}
	}
}

// TestNextInspection is of P7.6: the date of the document's example and those near it, and each error.
func TestNextInspection(t *testing.T) {
	done := []int{100, 300}
	for date, wanted := range map[int]int{100: 280, 280: 280, 300: 480, 310: 480, 480: 480} {
		gives(t, fmt.Sprint("on ", date), wanted)(duty.NextInspection(done, 180, date))
	}
	for _, date := range []int{281, 290, 299, 481, 100000} {
		fails(t, fmt.Sprint("on ", date), api.ErrState)(duty.NextInspection(done, 180, date))
	}
	for _, date := range []int{0, 99} {
		fails(t, fmt.Sprint("on ", date), api.ErrNone)(duty.NextInspection(done, 180, date))
	}
	gives(t, "behind all dates", 101000)(duty.NextInspection([]int{0, 100000}, 1000, 100000))
	gives(t, "each day", 101)(duty.NextInspection(done, 1, 101))
	gives(t, "20 inspections", 20)(duty.NextInspection(ascending(20), 1, 19))
	fails(t, "no inspections", api.ErrNone)(duty.NextInspection(nil, 180, 5))
	fails(t, "21 inspections", api.ErrLarge)(duty.NextInspection(ascending(21), 0, -1))
	fails(t, "21 inspections that are none", api.ErrLarge)(duty.NextInspection(make([]int, 21), 1, 5))
	for _, date := range []int{-1, 100001, math.MinInt, math.MaxInt} {
		fails(t, "done on no date", api.ErrRange)(duty.NextInspection([]int{date}, 0, -1))
		fails(t, "done on a date and on none", api.ErrRange)(duty.NextInspection([]int{100, date}, 0, -1))
		fails(t, "on no date", api.ErrRange)(duty.NextInspection(nil, 1, date))
	}
	for _, every := range []int{0, -1, 1001, math.MinInt, math.MaxInt} {
		fails(t, "never", api.ErrRange)(duty.NextInspection(nil, every, 5))
		fails(t, "never, done twice on a date", api.ErrOrder)(duty.NextInspection([]int{5, 5}, every, -1))
	}
	fails(t, "descending", api.ErrOrder)(duty.NextInspection([]int{300, 299}, 180, 310))
	fails(t, "one by one", api.ErrOrder)(duty.NextInspection([]int{7, 7, -1}, 180, 310))
}

func ascending(many int) []int {
	l := make([]int, many)
	for i := range l {
		l[i] = i
	}
	return l
}
