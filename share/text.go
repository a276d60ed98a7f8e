package share

import (
	"strings"

	"fiacre/api"
)

// FormatStops returns the text of the stops of a plan.
func FormatStops(p api.SharePlan) string {
	var list []string
	for _, stop := range p.Stops {
		if errorOfNumber(stop.Rider, len(p.Riders)) != api.OK {
			continue
		}
		sign := "+"
		if stop.Out {
			sign = "-"
		}
		list = append(list, sign+p.Riders[stop.Rider].Name)
	}
	return strings.Join(list, " ")
}

// ParseStops returns the stops with a text.
func ParseStops(riders []api.ShareRider, s string) ([]api.ShareStop, api.Errno) {
	numbers, e := numbersOf(riders)
	if e != api.OK {
		return nil, e
	}
	var list []string
	if s != "" {
		list = strings.Split(s, " ")
	}
	for _, word := range list {
		if len(word) < 2 || word[0] != '+' && word[0] != '-' {
			return nil, api.ErrSyntax
		}
	}
	stops := make([]api.ShareStop, len(list))
	for i, word := range list {
		rider, known := numbers[word[1:]]
		if !known {
			return nil, api.ErrMissing
		}
		stops[i] = api.ShareStop{Rider: rider, Out: word[0] == '-'}
	}
	return stops, api.OK
}

// numbersOf returns the number of each rider by name.
func numbersOf(riders []api.ShareRider) (map[string]int, api.Errno) {
	if len(riders) > api.MaxShareRiders {
		return nil, api.ErrLarge
	}
	numbers := map[string]int{}
	for i, r := range riders {
		if e := errorOfName(riders, i); e != api.OK {
			return nil, e
		}
		numbers[r.Name] = i
	}
	return numbers, api.OK
}
