package meter

import (
	"slices"

	"fiacre/api"
	"fiacre/tariff"
)

// moves tells from which position the meter goes to which.
var moves = [...][api.MeterCash + 1]bool{
	api.MeterFree:    {api.MeterHired: true},
	api.MeterHired:   {api.MeterStopped: true, api.MeterCash: true},
	api.MeterStopped: {api.MeterHired: true, api.MeterCash: true},
	api.MeterCash:    {api.MeterHired: true, api.MeterFree: true},
}

// metresOfKilometre makes pulses, of which the constant is so many in a kilometre, comparable with seconds.
const metresOfKilometre = 1000

// A ride is a trip as far as it has got: its parts, the cents of its supplements, and what was counted under each rule. In free it is empty.
type ride struct {
	trip   api.MeterTrip
	parts  int
	extras int
	counts [api.MaxTariffRules]api.MeterCount
}

// A meter is a counter that asks for money.
type meter struct {
	counter
	constant int
	ride     ride
	done     []ride
}

// A record is what a right log comes to: the states behind 0, 1, 2, .. events, and the rides that were finished.
type record struct {
	states []api.MeterState
	done   []ride
}

// recordOf returns the record of a log, or its first error with the number of the event that has it.
func recordOf(t api.Tariff, l api.MeterLog) (record, int, api.Errno) {
	if _, e := tariff.CheckTariff(t); e != api.OK {
		return record{}, 0, e
	}
	if i, e := checkAlone(l); e != api.OK {
		return record{}, i, e
	}
	m := meter{counter: newCounter(t, l), constant: l.Constant}
	states := []api.MeterState{m.state()}
	for i, event := range l.Events {
		if e := m.take(i, event); e != api.OK {
			return record{}, i, e
		}
		states = append(states, m.state())
	}
	return record{states: states, done: m.done}, 0, api.OK
}

// take carries out the event of this number.
func (m *meter) take(number int, event api.MeterEvent) api.Errno {
	if e := m.refusal(event); e != api.OK {
		return e
	}
	for p, e := range m.pieces(event) {
		if e != api.OK {
			return e
		}
		m.count(p)
		if m.fare() > api.MaxMoney {
			return api.ErrLarge
		}
	}
	if e := m.change(number, event); e != api.OK {
		return e
	}
	if m.fare() > api.MaxMoney {
		return api.ErrLarge
	}
	return api.OK
}

// refusal returns why an event is not possible now, whatever the rules are.
func (m *meter) refusal(event api.MeterEvent) api.Errno {
	switch event.Kind {
	case api.MeterPut:
		if !moves[m.position][event.N] {
			return api.ErrState
		}
	case api.MeterZone:
		if event.N >= len(m.tariff.Zones) {
			return api.ErrMissing
		}
	case api.MeterExtra:
		return m.refusalOfExtra(event.N)
	}
	return api.OK
}

func (m *meter) refusalOfExtra(extra int) api.Errno {
	switch {
	case extra >= len(m.tariff.Extras):
		return api.ErrMissing
	case m.position == api.MeterFree:
		return api.ErrState
	case m.ride.trip.Extras[extra] >= api.MaxTariffExtra:
		return api.ErrFull
	}
	return api.OK
}

// count adds a piece to the ride.
func (m *meter) count(p piece) {
	if !p.counted() {
		return
	}
	rule, counts := m.tariff.Rules[p.rule], &m.ride.counts[p.rule]
	byPulses, bySeconds := metresOfKilometre*rule.Metre*p.pulses, m.constant*rule.Second
	if p.tick && p.position == api.MeterHired && byPulses <= bySeconds {
		m.ride.parts += bySeconds
		counts.Seconds++
		return
	}
	m.ride.parts += byPulses
	counts.Pulses += p.pulses
}

// change goes on behind an event that is possible and whose pieces are counted.
func (m *meter) change(number int, event api.MeterEvent) api.Errno {
	switch {
	case event.Kind == api.MeterPut && m.position == api.MeterFree:
		if e := m.begin(number); e != api.OK {
			return e
		}
	case event.Kind == api.MeterPut && event.N == api.MeterFree:
		m.finish(number)
	case event.Kind == api.MeterExtra:
		m.ride.trip.Extras[event.N]++
		m.ride.extras += m.tariff.Extras[event.N].Amount
	}
	m.follow(event)
	return api.OK
}

func (m *meter) begin(number int) api.Errno {
	at, e := tariff.Later(m.at, m.ticks)
	if e != api.OK {
		return e
	}
	rule, e := m.rule()
	if e != api.OK {
		return e
	}
	m.ride.trip = api.MeterTrip{First: number, At: at, Start: m.tariff.Rules[rule].Start, Extras: make([]int, len(m.tariff.Extras))}
	return api.OK
}

func (m *meter) finish(number int) {
	m.ride.trip.Last, m.ride.trip.Steps, m.ride.trip.Fare = number, m.steps(), m.fare()
	m.done = append(m.done, m.ride)
	m.ride = ride{}
}

func (m *meter) steps() int { return m.ride.parts / (m.tariff.Unit * m.constant) }

// fare returns the fare that the meter shows, or something above MaxMoney if it is greater than that.
func (m *meter) fare() int {
	// So many steps, times the cents of a step, might be more than an int holds.
	steps := min(m.steps(), api.MaxMoney+1)
	return m.ride.trip.Start + steps*m.tariff.Step + m.ride.extras
}

func (m *meter) state() api.MeterState {
	return api.MeterState{
		Ticks: m.ticks, Pulses: m.pulses, Position: m.position, Zone: m.zone, Since: m.since,
		Steps: m.steps(), Extras: slices.Clone(m.ride.trip.Extras), Fare: m.fare(),
	}
}
