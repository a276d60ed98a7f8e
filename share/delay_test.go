package share_test

import (
	"fmt"
	"math"
	"math/rand"
	"slices"
	"testing"

	"fiacre/api"
	"fiacre/share"
)

// TestDelayed is of P6.5 and P6.11: the times with a delay, of which none is earlier.
func TestDelayed(t *testing.T) {
	gives(t, "at the first stop", "[30 130 230 230]")(share.Delayed(three(), both(), api.ShareDelay{Stop: 0, By: 30}))
	gives(t, "at another one", "[0 100 230 230]")(share.Delayed(three(), both(), api.ShareDelay{Stop: 2, By: 30}))
	gives(t, "at the last one", "[0 100 200 20200]")(share.Delayed(three(), both(), api.ShareDelay{Stop: 3, By: 20000}))
	late := with(func(p plan) { p.Riders[1].Ready = 150 })
	gives(t, "lost in waiting", "[50 150 250 250]")(share.Delayed(three(), late, api.ShareDelay{Stop: 0, By: 50}))
	gives(t, "lost in waiting in part", "[0 160 260 260]")(share.Delayed(three(), late, api.ShareDelay{Stop: 1, By: 60}))
	r := rand.New(rand.NewSource(70))
	for range 1000 {
		size := scale(r)
		m := anyMap(r, 12, size)
		p := anyPlan(r, m, 6, size)
		times := first(share.TimesOf(m, p))
		for stop := range p.Stops {
			x := api.ShareDelay{Stop: stop, By: min(r.Intn(5*size), api.MaxShareTime)}
			what := fmt.Sprint("Delayed ", m, p, x)
			got, e := share.Delayed(m, p, x)
			gives(t, what, slowTimes(m, p, x))(got, e)
			for i := range got {
				if got[i] < times[i] {
					t.Errorf("%s is earlier than %v", what, times)
				}
			}
			gives(t, "no delay of "+what, times)(share.Delayed(m, p, api.ShareDelay{Stop: stop}))
		}
	}
}

// TestDelayErrors is of P6.5: stops that are none, and delays out of range.
func TestDelayErrors(t *testing.T) {
	for _, stop := range []int{-1, 4, math.MinInt, math.MaxInt} {
		fails(t, "Delayed at no stop", api.ErrMissing)(share.Delayed(three(), both(), api.ShareDelay{Stop: stop, By: -1}))
		fails(t, "GreatestDelay of no stop", api.ErrMissing)(share.GreatestDelay(three(), with(func(p plan) { p.Car.Seats = 1 }), stop))
	}
	for _, by := range []int{-1, 20001, math.MinInt, math.MaxInt} {
		fails(t, "Delayed by too much", api.ErrRange)(share.Delayed(three(), both(), api.ShareDelay{Stop: 3, By: by}))
	}
	fails(t, "GreatestDelay of a plan that breaks a limit", api.ErrBreak)(share.GreatestDelay(three(), with(func(p plan) { p.Car.Seats = 1 }), 0))
	fails(t, "GreatestDelay of a ride that is too long", api.ErrBreak)(share.GreatestDelay(three(), with(func(p plan) { p.Riders[0].Detour = 49 }), 3))
	nobody := api.SharePlan{Car: api.ShareCar{Seats: 1}}
	fails(t, "Delayed without stops", api.ErrMissing)(share.Delayed(three(), nobody, api.ShareDelay{}))
	fails(t, "GreatestDelay without stops", api.ErrMissing)(share.GreatestDelay(three(), nobody, 0))
}

// TestGreatestDelay is of P6.5 and P6.11: with each lesser delay the plan keeps its limits, with one second more it does not.
func TestGreatestDelay(t *testing.T) {
	for stop, wanted := range []int{20000, 10, 0, 10} {
		gives(t, "the greatest delay", wanted)(share.GreatestDelay(three(), both(), stop))
	}
	r := rand.New(rand.NewSource(71))
	inner := 0
	for range 3000 {
		size := scale(r)
		m := anyMap(r, 12, size)
		p := anyPlan(r, m, 4, size)
		for stop := range p.Stops {
			what := fmt.Sprint("GreatestDelay of ", m, p, stop)
			greatest, e := share.GreatestDelay(m, p, stop)
			if !slowKeeps(m, p) {
				fails(t, what, api.ErrBreak)(greatest, e)
				continue
			}
			if e != api.OK || greatest < 0 || greatest > api.MaxShareTime {
				t.Fatalf("%s: %d, error %d", what, greatest, e)
			}
			delays := []int{0, greatest / 2, r.Intn(greatest + 1), greatest - 1, greatest}
			if greatest < 20 {
				delays = slices.Collect(upTo(greatest))
			}
			for _, by := range delays {
				if _, broken := slowBroken(m, p, api.ShareDelay{Stop: stop, By: max(0, by)}); broken {
					t.Errorf("%s: with %d a limit is broken", what, by)
				}
			}
			if greatest < api.MaxShareTime {
				inner++
				if _, broken := slowBroken(m, p, api.ShareDelay{Stop: stop, By: greatest + 1}); !broken {
					t.Errorf("%s: with %d no limit is broken", what, greatest+1)
				}
			}
		}
	}
	if inner < 300 {
		t.Errorf("too few delays are bounded: %d", inner)
	}
}

// upTo yields the numbers from 0 to n.
func upTo(n int) func(yield func(int) bool) {
	return func(yield func(int) bool) {
		for i := 0; i <= n && yield(i); i++ {
		}
	}
}

// TestAllDelays is of P6.11: every single delay of a few plans.
func TestAllDelays(t *testing.T) {
	r := rand.New(rand.NewSource(72))
	for range 60 {
		m := anyMap(r, 5, 10)
		p := anyPlan(r, m, 3, 10)
		for stop := range p.Stops {
			greatest, e := share.GreatestDelay(m, p, stop)
			if e != api.OK {
				continue
			}
			for by := range 200 {
				if _, broken := slowBroken(m, p, api.ShareDelay{Stop: stop, By: by}); broken != (by > greatest) {
					t.Fatalf("GreatestDelay of %v %v %d: %d, but by %d a limit is broken: %t", m, p, stop, greatest, by, broken)
				}
			}
		}
	}
}
