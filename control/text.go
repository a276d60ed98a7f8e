package control

import (
	"slices"
	"strconv"
	"strings"

	"fiacre/api"
	"fiacre/words"
)

const (
	// lineEnd ends the lines of a journal, and of a script.
	lineEnd = "\n"

	// numberDigits is how many digits the numbers in the text of an entry have at most.
	numberDigits = 6
	// entryWords is how many words the text of an entry has, the last one being all the rest.
	entryWords = 7
)

// FormatEntry returns the text of an entry.
func FormatEntry(e api.ControlEntry) string {
	if !isKind(e.Draft.Kind) {
		return ""
	}
	return strings.Join([]string{
		strconv.Itoa(e.Stamp.Clock), e.Stamp.Desk, strconv.Itoa(e.Stamp.Number),
		e.Draft.Person, kindOf(e.Draft.Kind).word, formattedKey(e.Draft.Key), e.Draft.Text,
	}, " ")
}

func formattedKey(key api.ControlKey) string {
	if key == (api.ControlKey{}) {
		return nothing
	}
	return key.Desk + "." + strconv.Itoa(key.Number)
}

// ParseEntry returns the entry with a text.
func ParseEntry(t string) (api.ControlEntry, api.Errno) {
	list := strings.SplitN(t, " ", entryWords)
	if len(list) < entryWords || slices.Contains(list[:entryWords-1], "") || strings.Contains(t, lineEnd) {
		return api.ControlEntry{}, api.ErrSyntax
	}
	clock, isClock := words.Number(list[0], numberDigits)
	number, isNumber := words.Number(list[2], numberDigits)
	kind, isKind := kindOfWord(list[4])
	key, isKey := parsedKey(list[5])
	if !isClock || !isNumber || !isKind || !isKey {
		return api.ControlEntry{}, api.ErrSyntax
	}
	return api.ControlEntry{
		Stamp: api.ControlStamp{Clock: clock, Desk: list[1], Number: number},
		Draft: api.ControlDraft{Person: list[3], Kind: kind, Key: key, Text: list[6]},
	}, api.OK
}

// parsedKey returns the key that a word is, which may be an empty one.
func parsedKey(word string) (api.ControlKey, bool) {
	if word == nothing {
		return api.ControlKey{}, true
	}
	desk, digits, _ := strings.Cut(word, ".")
	// A number has no ".", so that a second one is no key.
	number, is := words.Number(digits, numberDigits)
	return api.ControlKey{Desk: desk, Number: number}, is && desk != ""
}

// A sum is the check sum of all bytes so far.
type sum int

// noBytes is the check sum of no bytes.
const noBytes sum = 1

// with returns the check sum of all bytes so far and those of a text.
func (s sum) with(text string) sum {
	for i := range len(text) {
		s = (257*s + sum(text[i]) + 1) % api.ControlPrime
	}
	return s
}

// lineOf returns the line of an entry in a journal behind bytes with a check sum.
func lineOf(x api.ControlEntry, ahead sum) string {
	text := FormatEntry(x) + " "
	return text + strconv.Itoa(int(ahead.with(text))) + lineEnd
}

// FormatJournal returns the text of a journal.
func FormatJournal(l []api.ControlEntry) string {
	if slices.ContainsFunc(l, func(x api.ControlEntry) bool { return !isKind(x.Draft.Kind) }) {
		return ""
	}
	var text strings.Builder
	ahead := noBytes
	for _, x := range l {
		line := lineOf(x, ahead)
		text.WriteString(line)
		ahead = ahead.with(line)
	}
	return text.String()
}

// Recover returns the entries of the first whole lines of a text that make the text of a right journal, and how many bytes they have.
func Recover(s api.ControlSetup, t string) ([]api.ControlEntry, int, api.Errno) {
	if e := errorOfSetup(s); e != api.OK {
		return nil, 0, e
	}
	l, bytes := recovered(s, t)
	return l, bytes, api.OK
}

// recovered is Recover of a right setup.
func recovered(s api.ControlSetup, t string) ([]api.ControlEntry, int) {
	var l []api.ControlEntry
	bytes, ahead := 0, noBytes
	for line := range strings.SplitAfterSeq(t, lineEnd) {
		x, is := entryIn(line)
		if !is || line != lineOf(x, ahead) || len(l) == api.MaxControlEntries || errorBehind(s, l, x) != api.OK {
			break
		}
		l = append(l, x)
		bytes += len(line)
		ahead = ahead.with(line)
	}
	return l, bytes
}

// entryIn returns the entry whose text stands in a line of a journal.
func entryIn(line string) (api.ControlEntry, bool) {
	end := strings.LastIndex(line, " ")
	if end < 0 {
		return api.ControlEntry{}, false
	}
	x, e := ParseEntry(line[:end])
	return x, e == api.OK
}
