package meter

import (
	"iter"

	"fiacre/api"
	"fiacre/tariff"
)

// A counter follows a log: how many ticks and pulses there were, and where the meter is.
type counter struct {
	tariff                               api.Tariff
	at                                   api.Moment
	ticks, pulses, position, zone, since int
	spans                                [api.MaxTariffZones]span
}

// A span is the rule, or the error in its place, that stays in a zone for all ticks ahead of the tick until.
type span struct {
	rule, until int
	err         api.Errno
}

// A piece is what a tick, or a new position or zone, brings to an end: the pulses since the one before, and where they belong.
type piece struct {
	tick                         bool
	position, zone, rule, pulses int
}

// counted tells whether a piece is one for which the meter asks for money, and so for a rule.
func (p piece) counted() bool { return p.position == api.MeterHired || p.position == api.MeterStopped }

func newCounter(t api.Tariff, l api.MeterLog) counter { return counter{tariff: t, at: l.At} }

// pieces yields what an event brings to an end, one after the other, each with the error of its rule.
func (c *counter) pieces(event api.MeterEvent) iter.Seq2[piece, api.Errno] {
	return func(yield func(piece, api.Errno) bool) {
		switch event.Kind {
		case api.MeterTicks:
			for range event.N {
				p, e := c.cut(true)
				c.ticks++
				if !yield(p, e) {
					return
				}
			}
		case api.MeterPut, api.MeterZone:
			if c.since > 0 {
				yield(c.cut(false))
			}
		}
	}
}

// cut ends the piece that is going on.
func (c *counter) cut(tick bool) (piece, api.Errno) {
	p := piece{tick: tick, position: c.position, zone: c.zone, pulses: c.since}
	c.since = 0
	if !p.counted() {
		return p, api.OK
	}
	rule, e := c.rule()
	p.rule = rule
	return p, e
}

// follow goes on behind an event all pieces of which were yielded.
func (c *counter) follow(event api.MeterEvent) {
	switch event.Kind {
	case api.MeterPulses:
		c.pulses += event.N
		c.since += event.N
	case api.MeterPut:
		c.position = event.N
	case api.MeterZone:
		c.zone = event.N
	}
}

// rule returns the number of the rule that holds now.
func (c *counter) rule() (int, api.Errno) {
	// To look the rule up for each tick would take too long: a log has up to 720000 of them.
	if c.ticks >= c.spans[c.zone].until {
		c.spans[c.zone] = c.span()
	}
	return c.spans[c.zone].rule, c.spans[c.zone].err
}

// span returns the span that begins now.
func (c *counter) span() span {
	now, e := tariff.Later(c.at, c.ticks)
	if e != api.OK {
		return span{err: e}
	}
	place := api.TariffPlace{Zone: c.zone, At: now}
	rule, e := tariff.RuleAt(c.tariff, place)
	next, none := tariff.NextChange(c.tariff, place)
	if none != api.OK {
		// Nothing changes for more dates than a log can last, or up to the last moment there is.
		next = api.Moment{Date: api.MaxDate + 1}
	}
	return span{rule: rule, err: e, until: c.ticks + secondsBetween(now, next)}
}

func secondsBetween(from, to api.Moment) int {
	return (to.Date-from.Date)*api.Day + to.Time - from.Time
}
