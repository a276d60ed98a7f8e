package rank

import (
	"slices"
	"strconv"
	"strings"

	"fiacre/api"
	"fiacre/words"
)

// kindWords is the words of the kinds of events.
var kindWords = [api.RankKinds]string{"arrive", "serve", "decline", "leave", "call", "return"}

// noCar stands where an event has no car.
const noCar = "-"

// maxDigits is how many digits the numbers in texts have at most.
const maxDigits = 9

// FormatEvent returns the text of an event.
func FormatEvent(x api.RankEvent) string {
	if !isKind(x.Kind) {
		return ""
	}
	car := x.Car
	if x.Kind == api.RankCall || car == "" {
		car = noCar
	}
	return strings.Join([]string{kindWords[x.Kind], strconv.Itoa(x.At), strconv.Itoa(x.Rank), car}, " ")
}

// ParseEvent returns the event with a text.
func ParseEvent(s string) (api.RankEvent, api.Errno) {
	parts := strings.Split(s, " ")
	if len(parts) != 4 || slices.Contains(parts, "") {
		return api.RankEvent{}, api.ErrSyntax
	}
	kind, known := kindOf(parts[0])
	at, timed := words.Number(parts[1], maxDigits)
	rank, placed := words.Number(parts[2], maxDigits)
	if !known || !timed || !placed {
		return api.RankEvent{}, api.ErrSyntax
	}
	x := api.RankEvent{Kind: kind, At: at, Rank: rank, Car: parts[3]}
	if kind == api.RankCall && x.Car == noCar {
		x.Car = ""
	}
	if e := errorOfEventsCar(x); e != api.OK {
		return api.RankEvent{}, e
	}
	return x, api.OK
}

// kindOf returns the kind of events with a word.
func kindOf(word string) (int, bool) {
	for kind, w := range kindWords {
		if w == word {
			return kind, true
		}
	}
	return 0, false
}

// FormatState returns the text of a state.
func FormatState(s api.RankState) string {
	pieces := []string{strconv.Itoa(s.At)}
	for _, queue := range s.Queues {
		pieces = append(pieces, strings.Join(queue, " "))
	}
	taken := make([]string, len(s.Taken))
	for i, x := range s.Taken {
		taken[i] = x.Car + ":" + words.Joined(":", x.Rank, x.At)
	}
	pieces = append(pieces, strings.Join(taken, " "))
	return strings.Join(pieces, "|")
}

// ParseState returns the state with a text.
func ParseState(s string) (api.RankState, api.Errno) {
	pieces := strings.Split(s, "|")
	last := len(pieces) - 1
	if last < 2 {
		return api.RankState{}, api.ErrSyntax
	}
	at, timed := words.Number(pieces[0], maxDigits)
	queues, queued := parseQueues(pieces[1:last])
	taken, ok := parseTaken(pieces[last])
	if !timed || !queued || !ok {
		return api.RankState{}, api.ErrSyntax
	}
	return api.RankState{Queues: queues, Taken: taken, At: at}, api.OK
}

func parseQueues(pieces []string) ([][]string, bool) {
	queues := make([][]string, len(pieces))
	for i, piece := range pieces {
		cars, ok := wordsOf(piece)
		if !ok || strings.Contains(piece, ":") {
			return nil, false
		}
		queues[i] = cars
	}
	return queues, true
}

func parseTaken(piece string) ([]api.RankTaken, bool) {
	list, ok := wordsOf(piece)
	if !ok {
		return nil, false
	}
	taken := make([]api.RankTaken, len(list))
	for i, word := range list {
		parts := strings.Split(word, ":")
		if len(parts) != 3 || parts[0] == "" {
			return nil, false
		}
		rank, placed := words.Number(parts[1], maxDigits)
		at, timed := words.Number(parts[2], maxDigits)
		if !placed || !timed {
			return nil, false
		}
		taken[i] = api.RankTaken{Car: parts[0], Rank: rank, At: at}
	}
	return taken, true
}

// wordsOf returns the words of a piece with single blanks between.
func wordsOf(piece string) ([]string, bool) {
	if piece == "" {
		return nil, true
	}
	list := strings.Split(piece, " ")
	return list, !slices.Contains(list, "")
}
