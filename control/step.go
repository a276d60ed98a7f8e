package control

import (
	"slices"
	"strconv"
	"strings"

	"fiacre/api"
	"fiacre/words"
)

// crashDigits is how many digits the number of bytes in a line has at most.
const crashDigits = 5

// statusWords is the words of the states of a trip.
var statusWords = [...]string{
	api.ControlOrdered:   "ordered",
	api.ControlAssigned:  "assigned",
	api.ControlCarried:   "carried",
	api.ControlBilled:    "billed",
	api.ControlCancelled: "cancelled",
}

// A step is what a line of a script asks for.
type step interface {
	// carryOut returns what the line tells; beside an error it changes nothing.
	carryOut(r room) (string, api.Errno)
}

// parsedStep returns the step that a line of a script asks for, if it has the form of one.
func parsedStep(line string) (step, bool) {
	word, rest, _ := strings.Cut(line, " ")
	switch word {
	case "write":
		return parsedWrite(rest)
	case "link":
		return parsedLink(rest)
	case "crash":
		return parsedCrash(rest)
	case "trip":
		return parsedTrip(rest)
	case "takings":
		return parsedTakings(rest)
	}
	return nil, false
}

// wordsIn returns so many words of a text with single blanks between, the last one being all the rest.
func wordsIn(text string, many int) ([]string, bool) {
	list := strings.SplitN(text, " ", many)
	return list, len(list) == many && !slices.Contains(list, "")
}

// wordsOf returns the words of a text that has just so many, with single blanks between.
func wordsOf(text string, many int) ([]string, bool) {
	list, are := wordsIn(text, many)
	return list, are && !strings.Contains(list[many-1], " ")
}

// A writeStep lets a desk write.
type writeStep struct {
	desk, word string
	draft      api.ControlDraft
}

func parsedWrite(text string) (step, bool) {
	list, are := wordsIn(text, 5)
	if !are {
		return nil, false
	}
	key, is := parsedKey(list[3])
	return writeStep{list[0], list[2], api.ControlDraft{Person: list[1], Key: key, Text: list[4]}}, is
}

func (x writeStep) carryOut(r room) (string, api.Errno) {
	d, e := r.desk(x.desk)
	if e != api.OK {
		return "", e
	}
	kind, is := kindOfWord(x.word)
	if !is {
		return "", api.ErrKind
	}
	x.draft.Kind = kind
	written, e := d.Write(x.draft)
	return FormatEntry(written), e
}

// A linkStep joins the journals of two desks.
type linkStep struct{ first, second string }

func parsedLink(text string) (step, bool) {
	list, are := wordsOf(text, 2)
	if !are {
		return nil, false
	}
	return linkStep{list[0], list[1]}, true
}

func (x linkStep) carryOut(r room) (string, api.Errno) {
	first, e := r.desk(x.first)
	if e != api.OK {
		return "", e
	}
	second, e := r.desk(x.second)
	if e != api.OK {
		return "", e
	}
	if first == second {
		return "", api.ErrForm
	}
	toFirst, e := first.join(second.journal)
	if e != api.OK {
		return "", e
	}
	// What the first one has now is all that both have, so that the second one can join it.
	toSecond, e := second.join(first.journal)
	return words.Joined(" ", toFirst, toSecond), e
}

// A crashStep leaves so many bytes of the text of a desk's journal.
type crashStep struct {
	desk  string
	bytes int
}

func parsedCrash(text string) (step, bool) {
	list, are := wordsOf(text, 2)
	if !are {
		return nil, false
	}
	bytes, is := words.Number(list[1], crashDigits)
	return crashStep{list[0], bytes}, is && bytes >= 0
}

func (x crashStep) carryOut(r room) (string, api.Errno) {
	d, e := r.desk(x.desk)
	if e != api.OK {
		return "", e
	}
	d.crash(x.bytes)
	return strconv.Itoa(len(d.journal)), api.OK
}

// A tripStep asks for a trip.
type tripStep struct {
	desk string
	key  api.ControlKey
}

func parsedTrip(text string) (step, bool) {
	list, are := wordsOf(text, 2)
	if !are {
		return nil, false
	}
	key, is := parsedKey(list[1])
	return tripStep{list[0], key}, is && list[1] != nothing
}

func (x tripStep) carryOut(r room) (string, api.Errno) {
	d, e := r.desk(x.desk)
	if e != api.OK {
		return "", e
	}
	trip, e := tripIn(d.state(), x.key)
	if e != api.OK {
		return "", e
	}
	car := trip.Car
	if car == "" {
		car = nothing
	}
	return strings.Join([]string{trip.Passenger, car, statusWords[trip.Status], strconv.Itoa(trip.Fare)}, " "), api.OK
}

// A takingsStep asks for the takings.
type takingsStep struct{ desk string }

func parsedTakings(text string) (step, bool) {
	return takingsStep{text}, text != "" && !strings.Contains(text, " ")
}

func (x takingsStep) carryOut(r room) (string, api.Errno) {
	d, e := r.desk(x.desk)
	if e != api.OK {
		return "", e
	}
	cents, e := takings(d.state())
	return strconv.Itoa(cents), e
}
