package tariff

import (
	"strings"

	"fiacre/api"
	"fiacre/words"
)

// maxDigits is how many digits the numbers in texts of trips and tariffs have at most.
const maxDigits = 9

// The words of a trip's text: whether the fixed fare is asked for, and that there are no supplements.
const (
	wordFixed = "fixed"
	wordMeter = "meter"
	wordNone  = "-"
)

// FormatTrip returns the text of a trip, whatever it is.
func FormatTrip(x api.TariffTrip) string {
	asks, extras := wordMeter, wordNone
	if x.Fixed {
		asks = wordFixed
	}
	if len(x.Extras) > 0 {
		extras = words.Joined(",", x.Extras...)
	}
	parts := []string{words.Joined(" ", x.At.Date, x.At.Time), asks, extras}
	for _, s := range x.Segments {
		parts = append(parts, words.Joined(",", s.Zone, s.Metres, s.Seconds))
	}
	return strings.Join(parts, " ")
}

// ParseTrip returns the trip with a text.
func ParseTrip(s string) (api.TariffTrip, api.Errno) {
	parts := strings.Split(s, " ")
	if len(parts) < 5 {
		return api.TariffTrip{}, api.ErrSyntax
	}
	date, dateOK := words.Number(parts[0], maxDigits)
	time, timeOK := words.Number(parts[1], maxDigits)
	extras, extrasOK := extrasIn(parts[3])
	segments, segmentsOK := segmentsIn(parts[4:])
	asksOK := parts[2] == wordFixed || parts[2] == wordMeter
	if !dateOK || !timeOK || !asksOK || !extrasOK || !segmentsOK {
		return api.TariffTrip{}, api.ErrSyntax
	}
	return api.TariffTrip{
		At:       api.Moment{Date: date, Time: time},
		Fixed:    parts[2] == wordFixed,
		Extras:   extras,
		Segments: segments,
	}, api.OK
}

func extrasIn(word string) ([]int, bool) {
	if word == wordNone {
		return nil, true
	}
	return words.Numbers(word, maxDigits)
}

func segmentsIn(parts []string) ([]api.TariffSegment, bool) {
	var segments []api.TariffSegment
	for _, part := range parts {
		numbers, ok := words.Numbers(part, maxDigits)
		if !ok || len(numbers) != 3 {
			return nil, false
		}
		segments = append(segments, api.TariffSegment{Zone: numbers[0], Metres: numbers[1], Seconds: numbers[2]})
	}
	return segments, true
}
