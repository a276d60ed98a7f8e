package street

import (
	"slices"
	"strconv"
	"strings"

	"fiacre/api"
	"fiacre/words"
)

// The first words of the lines of a net's text.
const (
	wordPlace = "place"
	wordRoad  = "road"
	wordTime  = "time"
)

// maxDigits is how many digits the numbers in the text of a net have at most.
const maxDigits = 9

// FormatWay returns the text of a way.
func FormatWay(n api.StreetNet, way []int) (string, api.Errno) {
	if e := errorOfWay(n, way); e != api.OK {
		return "", e
	}
	names := make([]string, len(way))
	for i, road := range way {
		names[i] = n.Roads[road].Name
	}
	return strings.Join(names, " "), api.OK
}

// ParseWay returns the way with a text.
func ParseWay(n api.StreetNet, s string) ([]int, api.Errno) {
	if e := errorOfNet(n); e != api.OK || s == "" {
		return nil, e
	}
	names := strings.Split(s, " ")
	if slices.Contains(names, "") {
		return nil, api.ErrSyntax
	}
	way := make([]int, len(names))
	for i, name := range names {
		way[i] = slices.IndexFunc(n.Roads, func(r api.StreetRoad) bool { return r.Name == name })
	}
	if slices.Contains(way, none) {
		return nil, api.ErrMissing
	}
	if e := errorOfWay(n, way); e != api.OK {
		return nil, e
	}
	return way, api.OK
}

// Print returns the text of a net.
func Print(n api.StreetNet) (string, api.Errno) {
	if e := errorOfNet(n); e != api.OK {
		return "", e
	}
	var b strings.Builder
	line := func(parts ...string) { b.WriteString(strings.Join(parts, " ") + "\n") }
	for _, place := range n.Places {
		line(wordPlace, place)
	}
	for _, r := range n.Roads {
		line(wordRoad, r.Name, n.Places[r.From], n.Places[r.To], strconv.Itoa(r.Metres))
		for _, p := range r.Points {
			line(wordTime, words.Joined(" ", p.At, p.Takes.Lo, p.Takes.Hi))
		}
	}
	return b.String(), api.OK
}

// A reading is what has been read of the text of a net: how many lines, the net, and the first line with a name of no place (0: there is none).
type reading struct {
	lines   int
	net     api.StreetNet
	missing int
}

// Parse returns the net with a text, or the number of the line that is wrong.
func Parse(t string) (api.StreetNet, int, api.Errno) {
	if len(t) > api.MaxText {
		return api.StreetNet{}, 0, api.ErrLarge
	}
	var r reading
	for line := range strings.Lines(t) {
		r.lines++
		if !r.take(line) {
			return api.StreetNet{}, r.lines, api.ErrSyntax
		}
	}
	if r.missing > 0 {
		return api.StreetNet{}, r.missing, api.ErrMissing
	}
	if e := errorOfNet(r.net); e != api.OK {
		return api.StreetNet{}, 0, e
	}
	return r.net, 0, api.OK
}

// take reads a line, or tells that it has not its form.
func (r *reading) take(line string) bool {
	text, ended := strings.CutSuffix(line, "\n")
	parts := strings.Split(text, " ")
	if !ended || slices.Contains(parts, "") {
		return false
	}
	switch parts[0] {
	case wordPlace:
		return r.takePlace(parts[1:])
	case wordRoad:
		return r.takeRoad(parts[1:])
	case wordTime:
		return r.takePoint(parts[1:])
	}
	return false
}

func (r *reading) takePlace(parts []string) bool {
	if len(parts) != 1 || len(r.net.Roads) > 0 {
		return false
	}
	r.net.Places = append(r.net.Places, parts[0])
	return true
}

func (r *reading) takeRoad(parts []string) bool {
	if len(parts) != 4 {
		return false
	}
	metres, ok := words.Number(parts[3], maxDigits)
	if !ok {
		return false
	}
	// All places are known by now, as no line "place" may follow.
	from, to := slices.Index(r.net.Places, parts[1]), slices.Index(r.net.Places, parts[2])
	if r.missing == 0 && (from < 0 || to < 0) {
		r.missing = r.lines
	}
	r.net.Roads = append(r.net.Roads, api.StreetRoad{Name: parts[0], From: from, To: to, Metres: metres})
	return true
}

func (r *reading) takePoint(parts []string) bool {
	if len(parts) != 3 || len(r.net.Roads) == 0 {
		return false
	}
	var numbers [3]int
	for i, part := range parts {
		n, ok := words.Number(part, maxDigits)
		if !ok {
			return false
		}
		numbers[i] = n
	}
	road := &r.net.Roads[len(r.net.Roads)-1]
	road.Points = append(road.Points, api.StreetPoint{At: numbers[0], Takes: api.Range{Lo: numbers[1], Hi: numbers[2]}})
	return true
}
