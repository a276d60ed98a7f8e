package meter

import (
	"iter"
	"slices"

	"fiacre/api"
	"fiacre/check"
)

// A run is so many ticks that follow one another, each of which ends the same piece.
type run struct {
	piece
	ticks int
}

// TripOf returns a finished trip as one of chapter 1.
func TripOf(t api.Tariff, l api.MeterLog, trip int) (api.TariffTrip, api.Errno) {
	r, _, e := recordOf(t, l)
	if e != api.OK {
		return api.TariffTrip{}, e
	}
	if !check.Within(trip, 0, len(r.done)-1) {
		return api.TariffTrip{}, api.ErrMissing
	}
	told := r.done[trip].trip
	runs, e := runsOf(piecesOf(t, l, told))
	if e != api.OK {
		return api.TariffTrip{}, e
	}
	if len(runs) > 0 && runs[0].zone != r.states[told.First].Zone {
		return api.TariffTrip{}, api.ErrClash
	}
	segments, e := segmentsOf(l.Constant, runs)
	if e != api.OK {
		return api.TariffTrip{}, e
	}
	return api.TariffTrip{At: told.At, Extras: slices.Clone(told.Extras), Segments: segments}, api.OK
}

// piecesOf yields the pieces of a finished trip of a right log.
func piecesOf(t api.Tariff, l api.MeterLog, trip api.MeterTrip) iter.Seq[piece] {
	return func(yield func(piece) bool) {
		c := newCounter(t, l)
		for i, event := range l.Events[:trip.Last+1] {
			for p := range c.pieces(event) {
				if i > trip.First && !yield(p) {
					return
				}
			}
			c.follow(event)
		}
	}
}

// runsOf joins the hired ticks among pieces to runs, or returns why no segments can stand for the pieces.
func runsOf(pieces iter.Seq[piece]) ([]run, api.Errno) {
	var runs []run
	stopped, open, waited := false, false, false
	for p := range pieces {
		switch {
		case p.position == api.MeterStopped:
			stopped = true
		case p.position == api.MeterCash:
			waited = waited || p.tick
		case p.tick:
			open = open || waited
			runs = joined(runs, p)
		default:
			open = true
		}
	}
	switch {
	case stopped:
		return nil, api.ErrState
	case open:
		return nil, api.ErrOpen
	}
	return runs, api.OK
}

// joined returns the runs with one tick more.
func joined(runs []run, p piece) []run {
	if last := len(runs) - 1; last >= 0 && runs[last].piece == p {
		runs[last].ticks++
		return runs
	}
	return append(runs, run{piece: p, ticks: 1})
}

func segmentsOf(constant int, runs []run) ([]api.TariffSegment, api.Errno) {
	segments := make([]api.TariffSegment, len(runs))
	large := len(runs) > api.MaxTariffSegments
	for i, r := range runs {
		thousandths := metresOfKilometre * r.pulses * r.ticks
		if thousandths%constant != 0 {
			return nil, api.ErrForm
		}
		segments[i] = api.TariffSegment{Zone: r.zone, Metres: thousandths / constant, Seconds: r.ticks}
		large = large || segments[i].Metres > api.MaxTariffMetres || r.ticks > api.MaxTariffHours
	}
	switch {
	case len(runs) == 0:
		return nil, api.ErrNone
	case large:
		return nil, api.ErrLarge
	}
	return segments, api.OK
}
