package account

import (
	"strconv"
	"strings"

	"fiacre/api"
	"fiacre/words"
)

// digits is how many digits a number in the text of an entry has at most.
const digits = 15

// FormatEntry returns the text of an entry.
func FormatEntry(e api.AccountEntry) string {
	text := []string{strconv.Itoa(e.Date), e.Note}
	for _, line := range e.Lines {
		text = append(text, line.Account+"="+strconv.Itoa(line.Amount))
	}
	return strings.Join(text, " ")
}

// ParseEntry returns the entry with a text.
func ParseEntry(s string) (api.AccountEntry, api.Errno) {
	day, rest, _ := strings.Cut(s, " ")
	note, lines, more := strings.Cut(rest, " ")
	date, isDate := words.Number(day, digits)
	if !isDate || note == "" {
		return api.AccountEntry{}, api.ErrSyntax
	}
	e := api.AccountEntry{Date: date, Note: note}
	if !more {
		return e, api.OK
	}
	for word := range strings.SplitSeq(lines, " ") {
		line, is := parsedLine(word)
		if !is {
			return api.AccountEntry{}, api.ErrSyntax
		}
		e.Lines = append(e.Lines, line)
	}
	return e, api.OK
}

func parsedLine(word string) (api.AccountLine, bool) {
	name, number, _ := strings.Cut(word, "=")
	// A number has no "=", so that a second one is no line.
	amount, is := words.Number(number, digits)
	return api.AccountLine{Account: name, Amount: amount}, is && name != ""
}
